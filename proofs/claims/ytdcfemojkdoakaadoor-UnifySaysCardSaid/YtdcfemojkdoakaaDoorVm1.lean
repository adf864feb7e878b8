/- Merged: TyPlain, TyPure, UfPure, UfMost, UfEnds, UgGraph, UgSim, UgOrd. -/
import Derived.WalkKit
/- Types as plain data, their texts, and that unlike types have unlike texts. -/
namespace Go.Proofs.YtdcfemojkdoakaaDoor

inductive T where
  | var (n : ByteArray)
  | con (n : ByteArray) (l : List T)
  | fn (a b : T)
  | all (n : ByteArray) (a : T)

namespace T
def arrow : T → Bool
  | fn _ _ => true
  | all _ _ => true
  | _ => false
def wide : T → Bool
  | fn _ _ => true
  | all _ _ => true
  | con _ l => !l.isEmpty
  | var _ => false
def br (b : Bool) (s : List UInt8) : List UInt8 := if b then [40] ++ (s ++ [41]) else s
mutual
def text : T → List UInt8
  | var n => n.data.toList
  | con n l => n.data.toList ++ texts l
  | fn a b => br a.arrow (text a) ++ ([32, 45, 62, 32] ++ text b)
  | all n a => [102, 111, 114, 97, 108, 108, 32] ++ (n.data.toList ++ ([46, 32] ++ text a))
def texts : List T → List UInt8
  | [] => []
  | t :: r => ([32] ++ br t.wide (text t)) ++ texts r
end
def arg (t : T) : List UInt8 := br t.wide t.text
theorem texts_cons (t : T) (r : List T) : texts (t :: r) = ([32] ++ arg t) ++ texts r := by rw [texts]; rfl

/-- The names of types that the statement makes. -/
def vnames : List (List UInt8) := [[97], [98], [99]]
def cnames : List (List UInt8) := [[73, 110, 116], [66, 111, 111, 108], [76, 105, 115, 116], [80, 97, 105, 114]]
def classes : List (List UInt8) := [[69, 113], [79, 114, 100], [83, 104, 111, 119], [78, 117, 109]]
mutual
def Good : T → Prop
  | var n => n.data.toList ∈ vnames
  | con n l => n.data.toList ∈ cnames ∧ Goods l
  | fn a b => Good a ∧ Good b
  | all _ _ => False
def Goods : List T → Prop
  | [] => True
  | t :: r => Good t ∧ Goods r
end

def isL (c : UInt8) : Bool := (97 ≤ c && c ≤ 122) || (65 ≤ c && c ≤ 90)
def nam (s : List UInt8) : List UInt8 := s.takeWhile isL
def rst (s : List UInt8) : List UInt8 := s.dropWhile isL
def upper (s : List UInt8) : Bool := match s with
  | c :: _ => 65 ≤ c && c ≤ 90
  | [] => false

mutual
def pT : Nat → List UInt8 → Option (T × List UInt8)
  | 0, _ => none
  | f + 1, s => match pA f s with
    | some (a, 32 :: 45 :: 62 :: 32 :: r) => match pT f r with
      | some (b, r') => some (fn a b, r')
      | none => none
    | x => x
def pA : Nat → List UInt8 → Option (T × List UInt8)
  | 0, _ => none
  | f + 1, 40 :: r => match pT f r with
    | some (a, 41 :: r') => some (a, r')
    | _ => none
  | f + 1, s => if upper s then (match pArgs f (rst s) with
      | some (l, r) => some (con ⟨(nam s).toArray⟩ l, r)
      | none => none) else some (var ⟨(nam s).toArray⟩, rst s)
def pArgs : Nat → List UInt8 → Option (List T × List UInt8)
  | 0, _ => none
  | f + 1, 32 :: c :: r => if c == 45 then some ([], 32 :: c :: r) else match pArg f (c :: r) with
    | some (t, r1) => match pArgs f r1 with
      | some (l, r2) => some (t :: l, r2)
      | none => none
    | none => none
  | _ + 1, s => some ([], s)
def pArg : Nat → List UInt8 → Option (T × List UInt8)
  | 0, _ => none
  | f + 1, 40 :: r => match pT f r with
    | some (a, 41 :: r') => some (a, r')
    | _ => none
  | _ + 1, s => if upper s then some (con ⟨(nam s).toArray⟩ [], rst s) else some (var ⟨(nam s).toArray⟩, rst s)
end

/-- What stands behind a type's text: no letter, and no blank but that of an arrow. -/
def NL (x : List UInt8) : Prop := ∀ c r, x = c :: r → isL c = false
def Behind (x : List UInt8) : Prop := NL x ∧ ∀ c r, x = 32 :: c :: r → c = 45
def End (x : List UInt8) : Prop := x = [] ∨ ∃ r, x = 41 :: r ∨ x = 44 :: r
theorem End.nl {x : List UInt8} (h : End x) : NL x := by
  rcases h with rfl | ⟨r, rfl | rfl⟩
  · intro c r h; cases h
  · intro c r h; cases h; decide
  · intro c r h; cases h; decide
theorem End.behind {x : List UInt8} (h : End x) : Behind x := by
  refine ⟨h.nl, ?_⟩
  rcases h with rfl | ⟨r, rfl | rfl⟩
  · intro c r h; cases h
  · intro c r h; cases h
  · intro c r h; cases h
theorem nam_of {n x : List UInt8} (hn : n.all isL = true) (hx : NL x) : nam (n ++ x) = n ∧ rst (n ++ x) = x := by
  induction n with
  | nil =>
    cases x with
    | nil => exact ⟨rfl, rfl⟩
    | cons c r =>
      have := hx c r rfl
      simp [nam, rst, this]
  | cons c r ih =>
    simp at hn
    have := ih (by simpa using hn.2)
    simp [nam, rst, hn.1] at this ⊢
    exact this
theorem vname {n : List UInt8} (h : n ∈ vnames) : n.all isL = true ∧ (∀ x, upper (n ++ x) = false) ∧ (∀ x r, n ++ x ≠ 40 :: r) ∧ n ∉ classes := by
  simp [vnames] at h
  rcases h with rfl | rfl | rfl <;> exact ⟨by decide, fun x => rfl, fun x r h => (by cases h), by decide⟩
theorem cname {n : List UInt8} (h : n ∈ cnames) : n.all isL = true ∧ (∀ x, upper (n ++ x) = true) ∧ (∀ x r, n ++ x ≠ 40 :: r) ∧ n ∉ classes := by
  simp [cnames] at h
  rcases h with rfl | rfl | rfl | rfl <;> exact ⟨by decide, fun x => rfl, fun x r h => (by cases h), by decide⟩
theorem arr_list (n : ByteArray) : (⟨(n.data.toList).toArray⟩ : ByteArray) = n := by cases n; simp

theorem pA_name (f : Nat) (s : List UInt8) (h : ∀ r, s ≠ 40 :: r) : pA (f + 1) s = if upper s then (match pArgs f (rst s) with
      | some (l, r) => some (con ⟨(nam s).toArray⟩ l, r)
      | none => none) else some (var ⟨(nam s).toArray⟩, rst s) := by
  rw [pA]
  exact fun r e => h r e
theorem pArg_name (f : Nat) (s : List UInt8) (h : ∀ r, s ≠ 40 :: r) : pArg (f + 1) s = if upper s then some (con ⟨(nam s).toArray⟩ [], rst s) else some (var ⟨(nam s).toArray⟩, rst s) := by
  rw [pArg]
  exact fun r e => h r e
theorem pT_plain (f : Nat) (s x : List UInt8) (a : T) (h : pA f s = some (a, x)) (hx : ∀ r, x ≠ 32 :: 45 :: 62 :: 32 :: r) : pT (f + 1) s = some (a, x) := by
  rw [pT, h]
  split
  · rename_i h'; cases h'; exact absurd rfl (hx _)
  · rfl
theorem pArgs_end (f : Nat) (x : List UInt8) (h : Behind x) : pArgs (f + 1) x = some ([], x) := by
  cases x with
  | nil => rw [pArgs]; intro c r h; cases h
  | cons c r =>
    cases r with
    | nil => rw [pArgs]; intro c r h; cases h
    | cons d r =>
      by_cases hc : c = 32
      · subst hc
        have := h.2 d r rfl
        subst this
        rw [pArgs]; rfl
      · rw [pArgs]
        intro c' r' h'; cases h'; exact hc rfl

mutual
theorem text_read (t : T) (hg : Good t) (x : List UInt8) : (t.arrow = false → Behind x → ∃ n, ∀ f, n ≤ f → pA f (text t ++ x) = some (t, x)) ∧ (End x → ∃ n, ∀ f, n ≤ f → pT f (text t ++ x) = some (t, x)) := by
  have fin : (t.arrow = false → Behind x → ∃ n, ∀ f, n ≤ f → pA f (text t ++ x) = some (t, x)) → t.arrow = false → (End x → ∃ n, ∀ f, n ≤ f → pT f (text t ++ x) = some (t, x)) := by
    intro h ha he
    obtain ⟨n, hn⟩ := h ha he.behind
    refine ⟨n + 1, fun f hf => ?_⟩
    obtain ⟨g, rfl⟩ : ∃ g, f = g + 1 := ⟨f - 1, by omega⟩
    refine pT_plain g _ x t (hn g (by omega)) ?_
    rcases he with rfl | ⟨r, rfl | rfl⟩ <;> intro r h <;> cases h
  cases t with
  | var n =>
    rw [Good] at hg
    obtain ⟨h1, h2, h3, _⟩ := vname hg
    have A : (var n).arrow = false → Behind x → ∃ k, ∀ f, k ≤ f → pA f (text (var n) ++ x) = some (var n, x) := by
      intro _ hb
      refine ⟨1, fun f hf => ?_⟩
      obtain ⟨g, rfl⟩ : ∃ g, f = g + 1 := ⟨f - 1, by omega⟩
      rw [text, pA_name g _ (h3 x), h2 x]
      obtain ⟨e1, e2⟩ := nam_of h1 hb.1
      rw [e1, e2, arr_list]
      rfl
    exact ⟨A, fin A rfl⟩
  | con n l =>
    rw [Good] at hg
    obtain ⟨h1, h2, h3, _⟩ := cname hg.1
    have A : (con n l).arrow = false → Behind x → ∃ k, ∀ f, k ≤ f → pA f (text (con n l) ++ x) = some (con n l, x) := by
      intro _ hb
      obtain ⟨k, hk⟩ := texts_read l hg.2 x hb
      refine ⟨k + 1, fun f hf => ?_⟩
      obtain ⟨g, rfl⟩ : ∃ g, f = g + 1 := ⟨f - 1, by omega⟩
      rw [text, List.append_assoc, pA_name g _ (h3 _), h2 _]
      have hnl : NL (texts l ++ x) := by
        cases l with
        | nil => rw [texts]; exact hb.1
        | cons t r => intro c r' h; rw [texts] at h; cases h; decide
      obtain ⟨e1, e2⟩ := nam_of h1 hnl
      rw [e1, e2, arr_list, hk g (by omega)]
      rfl
    exact ⟨A, fin A rfl⟩
  | fn a b =>
    rw [Good] at hg
    refine ⟨fun h => (by cases h), fun he => ?_⟩
    obtain ⟨nb, hb⟩ := (text_read b hg.2 x).2 he
    have hA : ∃ n, ∀ f, n ≤ f → pA f (br a.arrow (text a) ++ ([32, 45, 62, 32] ++ (text b ++ x))) = some (a, [32, 45, 62, 32] ++ (text b ++ x)) := by
      by_cases ha : a.arrow = true
      · obtain ⟨n, hn⟩ := (text_read a hg.1 (41 :: ([32, 45, 62, 32] ++ (text b ++ x)))).2 (.inr ⟨_, .inl rfl⟩)
        refine ⟨n + 1, fun f hf => ?_⟩
        obtain ⟨g, rfl⟩ : ∃ g, f = g + 1 := ⟨f - 1, by omega⟩
        have e : br a.arrow (text a) ++ ([32, 45, 62, 32] ++ (text b ++ x)) = 40 :: (text a ++ 41 :: ([32, 45, 62, 32] ++ (text b ++ x))) := by simp [br, ha]
        rw [e, pA, hn g (by omega)]
        rfl
      · have ha' : a.arrow = false := by simpa using ha
        obtain ⟨n, hn⟩ := (text_read a hg.1 ([32, 45, 62, 32] ++ (text b ++ x))).1 ha' ⟨fun c r h => (by cases h; decide), fun c r h => (by cases h; rfl)⟩
        exact ⟨n, fun f hf => by rw [br, ha', if_neg (by decide)]; exact hn f hf⟩
    obtain ⟨na, ha⟩ := hA
    refine ⟨na + nb + 1, fun f hf => ?_⟩
    obtain ⟨g, rfl⟩ : ∃ g, f = g + 1 := ⟨f - 1, by omega⟩
    rw [text, List.append_assoc, List.append_assoc, pT, ha g (by omega)]
    show (match pT g (text b ++ x) with | some (b, r') => some (fn a b, r') | none => none) = _
    rw [hb g (by omega)]
  | all n a => rw [Good] at hg; exact hg.elim
theorem texts_read (l : List T) (hg : Goods l) (x : List UInt8) (hb : Behind x) : ∃ n, ∀ f, n ≤ f → pArgs f (texts l ++ x) = some (l, x) := by
  cases l with
  | nil =>
    refine ⟨1, fun f hf => ?_⟩
    obtain ⟨g, rfl⟩ : ∃ g, f = g + 1 := ⟨f - 1, by omega⟩
    rw [texts]
    exact pArgs_end g x hb
  | cons t r =>
    rw [Goods] at hg
    obtain ⟨n2, h2⟩ := texts_read r hg.2 x hb
    have hnl : NL (texts r ++ x) := by
      cases r with
      | nil => rw [texts]; exact hb.1
      | cons t' r' => intro c r'' h; rw [texts] at h; cases h; decide
    have h1 : ∃ n, ∀ f, n ≤ f → pArg f (br t.wide (text t) ++ (texts r ++ x)) = some (t, texts r ++ x) := by
      by_cases hw : t.wide = true
      · obtain ⟨n, hn⟩ := (text_read t hg.1 (41 :: (texts r ++ x))).2 (.inr ⟨_, .inl rfl⟩)
        refine ⟨n + 1, fun f hf => ?_⟩
        obtain ⟨g, rfl⟩ : ∃ g, f = g + 1 := ⟨f - 1, by omega⟩
        have e : br t.wide (text t) ++ (texts r ++ x) = 40 :: (text t ++ 41 :: (texts r ++ x)) := by simp [br, hw]
        rw [e, pArg, hn g (by omega)]
        rfl
      · refine ⟨1, fun f hf => ?_⟩
        obtain ⟨g, rfl⟩ : ∃ g, f = g + 1 := ⟨f - 1, by omega⟩
        have hw' : t.wide = false := by simpa using hw
        have hg1 := hg.1
        cases t with
        | var n =>
          rw [Good] at hg1
          obtain ⟨h1, h2, h3, _⟩ := vname hg1
          rw [br, hw', if_neg (by decide), text, pArg_name g _ (h3 _), h2 _]
          obtain ⟨e1, e2⟩ := nam_of h1 hnl
          rw [e1, e2, arr_list]
          rfl
        | con n l =>
          rw [Good] at hg1
          obtain ⟨h1, h2, h3, _⟩ := cname hg1.1
          have hl : l = [] := by simpa [wide] using hw'
          subst hl
          rw [br, hw', if_neg (by decide), text, texts, List.append_nil, pArg_name g _ (h3 _), h2 _]
          obtain ⟨e1, e2⟩ := nam_of h1 hnl
          rw [e1, e2, arr_list]
          rfl
        | fn a b => cases hw'
        | all n a => cases hw'
    obtain ⟨n1, h1⟩ := h1
    have hhd : ∃ c q, br t.wide (text t) ++ (texts r ++ x) = c :: q ∧ c ≠ 45 := by
      have hg1 := hg.1
      by_cases hw : t.wide = true
      · exact ⟨40, text t ++ 41 :: (texts r ++ x), by simp [br, hw], by decide⟩
      · have hw' : t.wide = false := by simpa using hw
        have hne : ∀ n : List UInt8, n.all isL = true → n ≠ [] → ∃ c q, n = c :: q ∧ c ≠ 45 := by
          intro n hn h0
          cases n with
          | nil => exact absurd rfl h0
          | cons c q => exact ⟨c, q, rfl, fun e => by subst e; simp [isL] at hn⟩
        cases t with
        | var n =>
          rw [Good] at hg1
          obtain ⟨c, q, e, hc⟩ := hne _ (vname hg1).1 (by intro e; rw [e] at hg1; exact absurd hg1 (by decide))
          exact ⟨c, q ++ (texts r ++ x), by rw [br, hw', if_neg (by decide), text, e]; rfl, hc⟩
        | con n l =>
          rw [Good] at hg1
          obtain ⟨c, q, e, hc⟩ := hne _ (cname hg1.1).1 (by intro e; rw [e] at hg1; exact absurd hg1.1 (by decide))
          have hl : l = [] := by simpa [wide] using hw'
          subst hl
          exact ⟨c, q ++ (texts r ++ x), by rw [br, hw', if_neg (by decide), text, texts, e]; simp, hc⟩
        | fn a b => cases hw'
        | all n a => cases hw'
    obtain ⟨c, q, hcq, hc⟩ := hhd
    refine ⟨n1 + n2 + 1, fun f hf => ?_⟩
    obtain ⟨g, rfl⟩ : ∃ g, f = g + 1 := ⟨f - 1, by omega⟩
    have e : texts (t :: r) ++ x = 32 :: c :: q := by rw [texts, ← hcq]; simp
    rw [e, pArgs, if_neg (by simpa using hc), ← hcq, h1 g (by omega)]
    show (match pArgs g (texts r ++ x) with | some (l, r2) => some (t :: l, r2) | none => none) = _
    rw [h2 g (by omega)]
end

theorem text_inj {t u : T} (ht : Good t) (hu : Good u) (h : text t = text u) : t = u := by
  obtain ⟨n, hn⟩ := (text_read t ht []).2 (.inl rfl)
  obtain ⟨m, hm⟩ := (text_read u hu []).2 (.inl rfl)
  have a := hn (n + m) (by omega)
  have b := hm (n + m) (by omega)
  rw [h, b] at a
  cases a; rfl
end T
end Go.Proofs.YtdcfemojkdoakaaDoor
/- Types as plain data: their order, how many parts, the parts, the free variables. -/
namespace Go.Proofs.YtdcfemojkdoakaaDoor

namespace T
def kind : T → Int
  | var _ => 1
  | con _ _ => 2
  | fn _ _ => 3
  | all _ _ => 4
def name : T → ByteArray
  | var n => n
  | con n _ => n
  | fn _ _ => ⟨#[]⟩
  | all n _ => n
def kids : T → List T
  | var _ => []
  | con _ l => l
  | fn a b => [a, b]
  | all _ a => [a]
theorem kid_size {t k : T} (h : k ∈ t.kids) : SizeOf.sizeOf k < SizeOf.sizeOf t := by
  cases t with
  | var n => cases h
  | con n l => have := List.sizeOf_lt_of_mem h; simp [kids] at this ⊢; omega
  | fn a b =>
    simp [kids] at h
    rcases h with rfl | rfl <;> simp <;> omega
  | all n a =>
    simp [kids] at h
    subst h; simp; omega
theorem kind_pos (t : T) : 1 ≤ t.kind ∧ t.kind ≤ 4 := by cases t <;> simp [kind]
theorem ext3 {t u : T} (h1 : t.kind = u.kind) (h2 : t.name = u.name) (h3 : t.kids = u.kids) : t = u := by
  cases t <;> cases u <;> simp_all [kind, name, kids]
end T

/-- -1, 0, 1. -/
def sgn (a b : Int) : Int := if a < b then -1 else if b < a then 1 else 0
/-- The first that is not 0. -/
def orI (a b : Int) : Int := if a = 0 then b else a
def Tri (p q r : Int) : Prop :=
  (p ≤ 0 → q ≤ 0 → r ≤ 0) ∧ (0 ≤ p → 0 ≤ q → 0 ≤ r) ∧ (p ≤ 0 → q ≤ 0 → r = 0 → p = 0 ∧ q = 0) ∧ (0 ≤ p → 0 ≤ q → r = 0 → p = 0 ∧ q = 0)
theorem sgn_neg (a b : Int) : sgn b a = - sgn a b := by unfold sgn; (repeat' split) <;> omega
theorem sgn_zero {a b : Int} : sgn a b = 0 ↔ a = b := by unfold sgn; (repeat' split) <;> omega
theorem sgn_tri (a b c : Int) : Tri (sgn a b) (sgn b c) (sgn a c) := by
  unfold Tri sgn
  (repeat' split) <;> omega
theorem orI_neg (p q : Int) : orI (-p) (-q) = - orI p q := by unfold orI; (repeat' split) <;> omega
theorem orI_zero {p q : Int} : orI p q = 0 ↔ p = 0 ∧ q = 0 := by unfold orI; split <;> omega
theorem orI_tri {p q r p' q' r' : Int} (h : Tri p q r) (h' : Tri p' q' r') : Tri (orI p p') (orI q q') (orI r r') := by
  obtain ⟨a1, a2, a3, a4⟩ := h
  obtain ⟨b1, b2, b3, b4⟩ := h'
  unfold Tri
  by_cases hp : p = 0 <;> by_cases hq : q = 0 <;> by_cases hr : r = 0
  · rw [orI, if_pos hp, orI, if_pos hq, orI, if_pos hr]; exact ⟨b1, b2, b3, b4⟩
  · exact absurd (show r = 0 by have := a1 (by omega) (by omega); have := a2 (by omega) (by omega); omega) hr
  · rw [orI, if_pos hp, orI, if_neg hq, orI, if_pos hr]
    exact ⟨fun _ _ => absurd (a3 (by omega) (by omega) hr).2 hq, fun _ _ => absurd (a4 (by omega) (by omega) hr).2 hq, fun _ _ => absurd (a3 (by omega) (by omega) hr).2 hq, fun _ _ => absurd (a4 (by omega) (by omega) hr).2 hq⟩
  · rw [orI, if_pos hp, orI, if_neg hq, orI, if_neg hr]
    exact ⟨fun _ _ => a1 (by omega) (by omega), fun _ _ => a2 (by omega) (by omega), fun _ _ h => absurd h hr, fun _ _ h => absurd h hr⟩
  · rw [orI, if_neg hp, orI, if_pos hq, orI, if_pos hr]
    exact ⟨fun _ _ => absurd (a3 (by omega) (by omega) hr).1 hp, fun _ _ => absurd (a4 (by omega) (by omega) hr).1 hp, fun _ _ => absurd (a3 (by omega) (by omega) hr).1 hp, fun _ _ => absurd (a4 (by omega) (by omega) hr).1 hp⟩
  · rw [orI, if_neg hp, orI, if_pos hq, orI, if_neg hr]
    exact ⟨fun _ _ => a1 (by omega) (by omega), fun _ _ => a2 (by omega) (by omega), fun _ _ h => absurd h hr, fun _ _ h => absurd h hr⟩
  · rw [orI, if_neg hp, orI, if_neg hq, orI, if_pos hr]
    exact ⟨fun h k => absurd (a3 h k hr).1 hp, fun h k => absurd (a4 h k hr).1 hp, fun h k _ => absurd (a3 h k hr).1 hp, fun h k _ => absurd (a4 h k hr).1 hp⟩
  · rw [orI, if_neg hp, orI, if_neg hq, orI, if_neg hr]
    exact ⟨a1, a2, a3, a4⟩
def Unit1 (p : Int) : Prop := p = -1 ∨ p = 0 ∨ p = 1
theorem sgn_unit (a b : Int) : Unit1 (sgn a b) := by unfold sgn Unit1; (repeat' split) <;> omega
theorem orI_unit {p q : Int} (h : Unit1 p) (k : Unit1 q) : Unit1 (orI p q) := by unfold orI; split <;> assumption

def cmpL : List UInt8 → List UInt8 → Int
  | [], [] => 0
  | [], _ :: _ => -1
  | _ :: _, [] => 1
  | a :: x, b :: y => orI (sgn a.toNat b.toNat) (cmpL x y)
theorem cmpL_neg : ∀ x y, cmpL y x = - cmpL x y
  | [], [] => rfl
  | [], _ :: _ => rfl
  | _ :: _, [] => rfl
  | a :: x, b :: y => by rw [cmpL, cmpL, sgn_neg, cmpL_neg x y, orI_neg]
theorem u8_eq {a b : UInt8} : (a.toNat : Int) = b.toNat ↔ a = b := by
  constructor
  · intro h
    exact UInt8.toNat_inj.1 (by omega)
  · rintro rfl; rfl
theorem cmpL_zero : ∀ {x y}, cmpL x y = 0 ↔ x = y
  | [], [] => by simp [cmpL]
  | [], _ :: _ => by simp [cmpL]
  | _ :: _, [] => by simp [cmpL]
  | a :: x, b :: y => by rw [cmpL, orI_zero, sgn_zero, cmpL_zero, u8_eq]; simp
theorem cmpL_unit : ∀ x y, Unit1 (cmpL x y)
  | [], [] => by simp [cmpL, Unit1]
  | [], _ :: _ => by simp [cmpL, Unit1]
  | _ :: _, [] => by simp [cmpL, Unit1]
  | a :: x, b :: y => by rw [cmpL]; exact orI_unit (sgn_unit _ _) (cmpL_unit x y)
theorem cmpL_tri : ∀ x y z, Tri (cmpL x y) (cmpL y z) (cmpL x z)
  | [], [], [] => by simp [cmpL, Tri]
  | [], [], _ :: _ => by simp [cmpL, Tri]
  | [], _ :: _, [] => by simp [cmpL, Tri]
  | _ :: _, [], [] => by simp [cmpL, Tri]
  | [], b :: y, c :: z => by
    have := cmpL_unit (b :: y) (c :: z)
    generalize cmpL (b :: y) (c :: z) = q at this ⊢
    unfold Unit1 at this
    unfold Tri
    simp only [cmpL]
    omega
  | a :: x, [], c :: z => by
    have := cmpL_unit (a :: x) (c :: z)
    generalize cmpL (a :: x) (c :: z) = q at this ⊢
    unfold Unit1 at this
    unfold Tri
    simp only [cmpL]
    omega
  | a :: x, b :: y, [] => by
    have := cmpL_unit (a :: x) (b :: y)
    generalize cmpL (a :: x) (b :: y) = q at this ⊢
    unfold Unit1 at this
    unfold Tri
    simp only [cmpL]
    omega
  | a :: x, b :: y, c :: z => by
    rw [cmpL, cmpL, cmpL]
    exact orI_tri (sgn_tri _ _ _) (cmpL_tri x y z)
theorem less_cmpL : ∀ x y, Op.bytesLess x y = decide (cmpL x y < 0)
  | [], [] => by simp [cmpL, Op.bytesLess]
  | [], _ :: _ => by simp [cmpL, Op.bytesLess]
  | _ :: _, [] => by simp [cmpL, Op.bytesLess]
  | a :: x, b :: y => by
    rw [cmpL, Op.bytesLess, less_cmpL x y]
    by_cases h : a = b
    · subst h
      have : sgn (a.toNat : Int) a.toNat = 0 := sgn_zero.2 rfl
      simp [this, orI]
    · have hn : ¬ sgn (a.toNat : Int) b.toNat = 0 := fun e => h (u8_eq.1 (sgn_zero.1 e))
      have e1 : (a == b) = false := by simpa using h
      rw [e1, orI, if_neg hn]
      by_cases hlt : a < b
      · have : a.toNat < b.toNat := hlt
        simp [hlt, sgn, this]
      · have : ¬ a.toNat < b.toNat := hlt
        simp only [hlt, decide_false, Bool.false_and, Bool.or_false]
        unfold sgn
        rw [if_neg (by omega)]
        split <;> simp
theorem beq_cmpL (x y : List UInt8) : (x == y) = decide (cmpL x y = 0) := by
  by_cases h : x = y
  · subst h; simp [cmpL_zero.2 rfl]
  · have : ¬ cmpL x y = 0 := fun e => h (cmpL_zero.1 e)
    simp [this, h]

mutual
def cmpT : T → T → Int
  | .var n, u => orI (sgn 1 u.kind) (orI (cmpL n.data.toList u.name.data.toList) (orI (sgn 0 u.kids.length) (match u.kids with | [] => 0 | _ :: _ => -1)))
  | .con n l, u => orI (sgn 2 u.kind) (orI (cmpL n.data.toList u.name.data.toList) (orI (sgn l.length u.kids.length) (cmpTs l u.kids)))
  | .fn a b, u => orI (sgn 3 u.kind) (orI (cmpL [] u.name.data.toList) (orI (sgn 2 u.kids.length) (match u.kids with
    | [] => 1
    | c :: r => orI (cmpT a c) (match r with
      | [] => 1
      | d :: r' => orI (cmpT b d) (match r' with | [] => 0 | _ :: _ => -1)))))
  | .all n a, u => orI (sgn 4 u.kind) (orI (cmpL n.data.toList u.name.data.toList) (orI (sgn 1 u.kids.length) (match u.kids with
    | [] => 1
    | c :: r => orI (cmpT a c) (match r with | [] => 0 | _ :: _ => -1))))
def cmpTs : List T → List T → Int
  | [], [] => 0
  | [], _ :: _ => -1
  | _ :: _, [] => 1
  | a :: l, b :: m => orI (cmpT a b) (cmpTs l m)
end
theorem cmpTs_nil (m : List T) : cmpTs [] m = (match m with | [] => 0 | _ :: _ => -1) := by cases m <;> rw [cmpTs]
theorem cmpT_eq (t u : T) : cmpT t u = orI (sgn t.kind u.kind) (orI (cmpL t.name.data.toList u.name.data.toList) (orI (sgn t.kids.length u.kids.length) (cmpTs t.kids u.kids))) := by
  cases t with
  | var n => rw [cmpT]; simp only [T.kind, T.name, T.kids, cmpTs_nil]; rfl
  | con n l => rw [cmpT]; simp only [T.kind, T.name, T.kids]
  | fn a b =>
    rw [cmpT]
    show _ = orI (sgn 3 u.kind) (orI (cmpL [] u.name.data.toList) (orI (sgn 2 u.kids.length) (cmpTs [a, b] u.kids)))
    generalize u.kids = m
    match m with
    | [] => rw [cmpTs]
    | [c] => rw [cmpTs, cmpTs]
    | c :: d :: r => rw [cmpTs, cmpTs, cmpTs_nil]
  | all n a =>
    rw [cmpT]
    show _ = orI (sgn 4 u.kind) (orI (cmpL n.data.toList u.name.data.toList) (orI (sgn 1 u.kids.length) (cmpTs [a] u.kids)))
    generalize u.kids = m
    match m with
    | [] => rw [cmpTs]
    | c :: r => rw [cmpTs, cmpTs_nil]

theorem cmpTs_neg : ∀ l m : List T, (∀ k ∈ l, ∀ u, cmpT u k = - cmpT k u) → cmpTs m l = - cmpTs l m
  | [], [], _ => by rw [cmpTs]; rfl
  | [], _ :: _, _ => by rw [cmpTs, cmpTs]; rfl
  | _ :: _, [], _ => by rw [cmpTs, cmpTs]
  | a :: l, b :: m, H => by
    rw [cmpTs, cmpTs, H a (List.mem_cons_self ..), cmpTs_neg l m (fun k hk => H k (List.mem_cons_of_mem _ hk)), orI_neg]
theorem cmp_neg (t u : T) : cmpT u t = - cmpT t u := by
  rw [cmpT_eq, cmpT_eq t u, sgn_neg t.kind, cmpL_neg t.name.data.toList, sgn_neg t.kids.length, cmpTs_neg t.kids u.kids (fun k hk v => cmp_neg k v), orI_neg, orI_neg, orI_neg]
termination_by SizeOf.sizeOf t
decreasing_by exact T.kid_size hk
theorem cmpTs_zero : ∀ l m : List T, (∀ k ∈ l, ∀ u, cmpT k u = 0 ↔ k = u) → (cmpTs l m = 0 ↔ l = m)
  | [], [], _ => by simp [cmpTs]
  | [], _ :: _, _ => by simp [cmpTs]
  | _ :: _, [], _ => by simp [cmpTs]
  | a :: l, b :: m, H => by
    rw [cmpTs, orI_zero, H a (List.mem_cons_self ..), cmpTs_zero l m (fun k hk => H k (List.mem_cons_of_mem _ hk))]
    simp
theorem cmp_zero (t u : T) : cmpT t u = 0 ↔ t = u := by
  rw [cmpT_eq, orI_zero, orI_zero, orI_zero, sgn_zero, cmpL_zero, cmpTs_zero t.kids u.kids (fun k hk v => cmp_zero k v)]
  constructor
  · rintro ⟨h1, h2, _, h3⟩
    exact T.ext3 h1 (by cases h : t.name; cases h' : u.name; rw [h, h'] at h2; simp_all) h3
  · rintro rfl
    exact ⟨rfl, rfl, sgn_zero.2 rfl, rfl⟩
termination_by SizeOf.sizeOf t
decreasing_by exact T.kid_size hk
theorem cmpTs_unit : ∀ l m : List T, (∀ k ∈ l, ∀ u, Unit1 (cmpT k u)) → Unit1 (cmpTs l m)
  | [], [], _ => by simp [cmpTs, Unit1]
  | [], _ :: _, _ => by simp [cmpTs, Unit1]
  | _ :: _, [], _ => by simp [cmpTs, Unit1]
  | a :: l, b :: m, H => by
    rw [cmpTs]
    exact orI_unit (H a (List.mem_cons_self ..) b) (cmpTs_unit l m (fun k hk => H k (List.mem_cons_of_mem _ hk)))
theorem cmp_unit (t u : T) : Unit1 (cmpT t u) := by
  rw [cmpT_eq]
  exact orI_unit (sgn_unit _ _) (orI_unit (cmpL_unit _ _) (orI_unit (sgn_unit _ _) (cmpTs_unit t.kids u.kids (fun k hk v => cmp_unit k v))))
termination_by SizeOf.sizeOf t
decreasing_by exact T.kid_size hk
theorem cmpTs_tri : ∀ x y z : List T, (∀ k ∈ x, ∀ u v, Tri (cmpT k u) (cmpT u v) (cmpT k v)) → Tri (cmpTs x y) (cmpTs y z) (cmpTs x z)
  | [], [], [], _ => by simp [cmpTs, Tri]
  | [], [], _ :: _, _ => by simp [cmpTs, Tri]
  | [], _ :: _, [], _ => by simp [cmpTs, Tri]
  | _ :: _, [], [], _ => by simp [cmpTs, Tri]
  | [], b :: y, c :: z, _ => by
    have := cmpTs_unit (b :: y) (c :: z) (fun k _ u => cmp_unit k u)
    generalize cmpTs (b :: y) (c :: z) = q at this ⊢
    unfold Unit1 at this
    unfold Tri
    simp only [cmpTs]
    omega
  | a :: x, [], c :: z, _ => by
    have := cmpTs_unit (a :: x) (c :: z) (fun k _ u => cmp_unit k u)
    generalize cmpTs (a :: x) (c :: z) = q at this ⊢
    unfold Unit1 at this
    unfold Tri
    simp only [cmpTs]
    omega
  | a :: x, b :: y, [], _ => by
    have := cmpTs_unit (a :: x) (b :: y) (fun k _ u => cmp_unit k u)
    generalize cmpTs (a :: x) (b :: y) = q at this ⊢
    unfold Unit1 at this
    unfold Tri
    simp only [cmpTs]
    omega
  | a :: x, b :: y, c :: z, H => by
    rw [cmpTs, cmpTs, cmpTs]
    exact orI_tri (H a (List.mem_cons_self ..) b c) (cmpTs_tri x y z (fun k hk => H k (List.mem_cons_of_mem _ hk)))
theorem cmp_tri (t u v : T) : Tri (cmpT t u) (cmpT u v) (cmpT t v) := by
  rw [cmpT_eq t u, cmpT_eq u v, cmpT_eq t v]
  exact orI_tri (sgn_tri _ _ _) (orI_tri (cmpL_tri _ _ _) (orI_tri (sgn_tri _ _ _) (cmpTs_tri t.kids u.kids v.kids (fun k hk u v => cmp_tri k u v))))
termination_by SizeOf.sizeOf t
decreasing_by exact T.kid_size hk

mutual
def tsize : T → Nat
  | .var _ => 1
  | .con _ l => 1 + tsizes l
  | .fn a b => 1 + (tsize a + tsize b)
  | .all _ a => 1 + tsize a
def tsizes : List T → Nat
  | [] => 0
  | a :: l => tsize a + tsizes l
end
theorem tsize_eq (t : T) : tsize t = 1 + tsizes t.kids := by
  cases t <;> simp [tsize, T.kids, tsizes]
mutual
def parts : T → List T
  | .var n => [.var n]
  | .con n l => .con n l :: partss l
  | .fn a b => .fn a b :: (parts a ++ parts b)
  | .all n a => .all n a :: parts a
def partss : List T → List T
  | [] => []
  | a :: l => parts a ++ partss l
end
theorem parts_eq (t : T) : parts t = t :: partss t.kids := by
  cases t <;> simp [parts, T.kids, partss]
mutual
theorem parts_len (t : T) : (parts t).length = tsize t := by
  cases t with
  | var n => simp [parts, tsize]
  | con n l => simp [parts, tsize, partss_len l]; omega
  | fn a b => simp [parts, tsize, parts_len a, parts_len b]; omega
  | all n a => simp [parts, tsize, parts_len a]; omega
theorem partss_len (l : List T) : (partss l).length = tsizes l := by
  cases l with
  | nil => simp [partss, tsizes]
  | cons a l => simp [partss, tsizes, parts_len a, partss_len l]
end
open Classical in
mutual
noncomputable def fv : List ByteArray → List ByteArray → T → List ByteArray
  | bd, out, .var n => if n ∈ bd ∨ n ∈ out then out else out ++ [n]
  | bd, out, .con _ l => fvs bd out l
  | bd, out, .fn a b => fv bd (fv bd out a) b
  | bd, out, .all n a => fv (n :: bd) out a
noncomputable def fvs : List ByteArray → List ByteArray → List T → List ByteArray
  | _, out, [] => out
  | bd, out, a :: l => fvs bd (fv bd out a) l
end
end Go.Proofs.YtdcfemojkdoakaaDoor
/- Two types as one, as plain data: what the chapter's way finds, that it ends, that it is the most general. -/
namespace Go.Proofs.YtdcfemojkdoakaaDoor

theorem T.kidsInd {P : T → Prop} (H : ∀ t, (∀ k ∈ t.kids, P k) → P t) : ∀ t, P t := by
  have key : ∀ n, ∀ t : T, SizeOf.sizeOf t ≤ n → P t := by
    intro n
    induction n with
    | zero => intro t ht; exact H t fun k hk => by have := T.kid_size hk; omega
    | succ n ih => intro t ht; exact H t fun k hk => ih k (by have := T.kid_size hk; omega)
  exact fun t => key _ t (Nat.le_refl _)
/-- Types for variables. -/
abbrev Sg := ByteArray → T
mutual
def sub (σ : Sg) : T → T
  | .var n => σ n
  | .con n l => .con n (subs σ l)
  | .fn a b => .fn (sub σ a) (sub σ b)
  | .all n a => .all n (sub σ a)
def subs (σ : Sg) : List T → List T
  | [] => []
  | a :: l => sub σ a :: subs σ l
end
theorem subs_map (σ : Sg) : ∀ l, subs σ l = l.map (sub σ)
  | [] => rfl
  | a :: l => by rw [subs, subs_map σ l]; rfl
def T.isV : T → Bool
  | .var _ => true
  | _ => false
theorem isV_var {t : T} (h : t.isV = true) : t = .var t.name := by cases t <;> simp_all [T.isV, T.name]
theorem sub_parts (σ : Sg) (t : T) (h : t.isV = false) : (sub σ t).kind = t.kind ∧ (sub σ t).name = t.name ∧ (sub σ t).kids = t.kids.map (sub σ) ∧ (sub σ t).isV = false := by
  cases t with
  | var n => simp [T.isV] at h
  | con n l => rw [sub, subs_map]; exact ⟨rfl, rfl, rfl, rfl⟩
  | fn a b => rw [sub]; exact ⟨rfl, rfl, rfl, rfl⟩
  | all n a => rw [sub]; exact ⟨rfl, rfl, rfl, rfl⟩
/-- Two that are no variables are the same by their heads and their parts. -/
theorem sub_congr {σ τ : Sg} {t : T} (h : t.isV = false) (hk : ∀ k ∈ t.kids, sub σ k = sub τ k) : sub σ t = sub τ t := by
  obtain ⟨a1, a2, a3, _⟩ := sub_parts σ t h
  obtain ⟨b1, b2, b3, _⟩ := sub_parts τ t h
  refine T.ext3 (a1.trans b1.symm) (a2.trans b2.symm) ?_
  rw [a3, b3]
  exact List.map_congr_left hk
mutual
/-- The variables that stand in a type. -/
def vs : T → List ByteArray
  | .var n => [n]
  | .con _ l => vss l
  | .fn a b => vs a ++ vs b
  | .all _ a => vs a
def vss : List T → List ByteArray
  | [] => []
  | a :: l => vs a ++ vss l
end
theorem vss_mem {x : ByteArray} : ∀ {l : List T}, x ∈ vss l ↔ ∃ k ∈ l, x ∈ vs k
  | [] => by simp [vss]
  | a :: l => by rw [vss, List.mem_append, vss_mem (l := l)]; simp
theorem vs_kids {x : ByteArray} {t : T} (h : t.isV = false) : x ∈ vs t ↔ ∃ k ∈ t.kids, x ∈ vs k := by
  cases t with
  | var n => simp [T.isV] at h
  | con n l => rw [vs, vss_mem]; rfl
  | fn a b => simp [vs, T.kids]
  | all n a => simp [vs, T.kids]
theorem sub_ext {σ τ : Sg} : ∀ t, (∀ x ∈ vs t, σ x = τ x) → sub σ t = sub τ t := by
  refine T.kidsInd fun t ih h => ?_
  by_cases hv : t.isV = true
  · rw [isV_var hv]; exact h _ (by rw [isV_var hv]; simp [vs, T.name])
  · have hv' : t.isV = false := by simpa using hv
    exact sub_congr hv' fun k hk => ih k hk fun x hx => h x ((vs_kids hv').2 ⟨k, hk, hx⟩)
theorem sub_var : ∀ t, sub T.var t = t := by
  refine T.kidsInd fun t ih => ?_
  by_cases hv : t.isV = true
  · rw [isV_var hv]; rfl
  · obtain ⟨a1, a2, a3, _⟩ := sub_parts T.var t (by simpa using hv)
    refine T.ext3 a1 a2 ?_
    rw [a3]
    conv => rhs; rw [← List.map_id t.kids]
    exact List.map_congr_left fun k hk => ih k hk
theorem sub_id {σ : Sg} {t : T} (h : ∀ x ∈ vs t, σ x = .var x) : sub σ t = t := (sub_ext t h).trans (sub_var t)
theorem sub_sub (τ σ : Sg) : ∀ t, sub τ (sub σ t) = sub (fun n => sub τ (σ n)) t := by
  refine T.kidsInd fun t ih => ?_
  by_cases hv : t.isV = true
  · rw [isV_var hv]; rfl
  · have hv' : t.isV = false := by simpa using hv
    obtain ⟨a1, a2, a3, a4⟩ := sub_parts σ t hv'
    obtain ⟨b1, b2, b3, _⟩ := sub_parts τ (sub σ t) a4
    obtain ⟨c1, c2, c3, _⟩ := sub_parts (fun n => sub τ (σ n)) t hv'
    refine T.ext3 (b1.trans (a1.trans c1.symm)) (b2.trans (a2.trans c2.symm)) ?_
    rw [b3, a3, c3, List.map_map]
    exact List.map_congr_left fun k hk => ih k hk
theorem vs_sub {σ : Sg} {x : ByteArray} : ∀ t, x ∈ vs (sub σ t) ↔ ∃ y ∈ vs t, x ∈ vs (σ y) := by
  refine T.kidsInd fun t ih => ?_
  by_cases hv : t.isV = true
  · rw [isV_var hv]; simp [sub, vs]
  · have hv' : t.isV = false := by simpa using hv
    obtain ⟨_, _, a3, a4⟩ := sub_parts σ t hv'
    rw [vs_kids a4, a3]
    constructor
    · rintro ⟨k, hk, hx⟩
      obtain ⟨k0, hk0, rfl⟩ := List.mem_map.1 hk
      obtain ⟨y, hy, h⟩ := (ih k0 hk0).1 hx
      exact ⟨y, (vs_kids hv').2 ⟨k0, hk0, hy⟩, h⟩
    · rintro ⟨y, hy, h⟩
      obtain ⟨k0, hk0, hy⟩ := (vs_kids hv').1 hy
      exact ⟨_, List.mem_map.2 ⟨k0, hk0, rfl⟩, (ih k0 hk0).2 ⟨y, hy, h⟩⟩
theorem tsizes_mem {k : T} : ∀ {l : List T}, k ∈ l → tsize k ≤ tsizes l
  | [], h => by cases h
  | a :: l, h => by
    rw [tsizes]
    rcases List.mem_cons.1 h with rfl | h
    · omega
    · have := tsizes_mem h; omega
theorem tsize_pos (t : T) : 1 ≤ tsize t := by rw [tsize_eq]; omega
theorem tsize_kid {t k : T} (h : k ∈ t.kids) : tsize k < tsize t := by rw [tsize_eq t]; have := tsizes_mem h; omega
theorem size_sub {σ : Sg} {x : ByteArray} : ∀ t, x ∈ vs t → tsize (σ x) ≤ tsize (sub σ t) := by
  refine T.kidsInd fun t ih h => ?_
  by_cases hv : t.isV = true
  · rw [isV_var hv] at h ⊢
    simp [vs, T.name] at h
    subst h; exact Nat.le_refl _
  · have hv' : t.isV = false := by simpa using hv
    obtain ⟨k, hk, hx⟩ := (vs_kids hv').1 h
    obtain ⟨_, _, a3, _⟩ := sub_parts σ t hv'
    have := ih k hk hx
    have h2 : tsize (sub σ k) < tsize (sub σ t) := tsize_kid (by rw [a3]; exact List.mem_map.2 ⟨k, hk, rfl⟩)
    omega
/-- A variable within a type that is none: the type is greater. -/
theorem size_sub_lt {σ : Sg} {x : ByteArray} {t : T} (hv : t.isV = false) (h : x ∈ vs t) : tsize (σ x) < tsize (sub σ t) := by
  obtain ⟨k, hk, hx⟩ := (vs_kids hv).1 h
  obtain ⟨_, _, a3, _⟩ := sub_parts σ t hv
  have h1 := size_sub (σ := σ) k hx
  have h2 : tsize (sub σ k) < tsize (sub σ t) := tsize_kid (by rw [a3]; exact List.mem_map.2 ⟨k, hk, rfl⟩)
  omega

/-- What comes of two types: the variables' types, or why there are none (true: the variable stands in the type). -/
inductive UR where
  | ok (σ : Sg)
  | bad (e : Bool)
open Classical in
noncomputable def one (x : ByteArray) (u : T) : Sg := fun n => if n = x then u else .var n
open Classical in
noncomputable def bindU (σ : Sg) (x : ByteArray) (u : T) : UR := if x ∈ vs u then .bad true else .ok (fun n => sub (one x u) (σ n))
noncomputable def uniL (u : Sg → T → T → Option UR) : Sg → List T → List T → Option UR
  | σ, a :: l, b :: m => match u σ a b with
    | some (.ok τ) => uniL u τ l m
    | r => r
  | σ, _, _ => some (.ok σ)
open Classical in
noncomputable def stepU (u : Sg → T → T → Option UR) (σ : Sg) (a b : T) : Option UR :=
  if a.isV = true ∧ b.isV = true ∧ a.name = b.name then some (.ok σ)
  else if a.isV = true then some (bindU σ a.name b)
  else if b.isV = true then some (bindU σ b.name a)
  else if a.kind = b.kind ∧ a.name = b.name ∧ a.kids.length = b.kids.length then uniL u σ a.kids b.kids
  else some (.bad false)
noncomputable def uni : Nat → Sg → T → T → Option UR
  | 0, _, _, _ => none
  | f + 1, σ, a, b => stepU (uni f) σ (sub σ a) (sub σ b)

theorem one_at (x : ByteArray) (u : T) : one x u x = u := by simp [one]
theorem one_ne {x y : ByteArray} (u : T) (h : y ≠ x) : one x u y = .var y := by simp [one, h]
/-- What is found is at its end: no variable that has a type stands in any of the types. -/
def Idem (σ : Sg) : Prop := ∀ x, ∀ y ∈ vs (σ x), σ y = .var y
theorem idem_var : Idem T.var := fun _ _ _ => rfl
theorem Idem.on {σ : Sg} (h : Idem σ) {t : T} {y : ByteArray} (hy : y ∈ vs (sub σ t)) : σ y = .var y := by
  obtain ⟨x, _, hx⟩ := (vs_sub t).1 hy
  exact h x y hx
theorem Idem.twice {σ : Sg} (h : Idem σ) (t : T) : sub σ (sub σ t) = sub σ t := sub_id fun _ hx => h.on hx
/-- More was found. -/
def ExtU (σ τ : Sg) : Prop := ∃ δ : Sg, ∀ x, τ x = sub δ (σ x)
theorem ExtU.refl (σ : Sg) : ExtU σ σ := ⟨T.var, fun _ => (sub_var _).symm⟩
theorem ExtU.trans {σ τ ρ : Sg} (h : ExtU σ τ) (k : ExtU τ ρ) : ExtU σ ρ := by
  obtain ⟨d, h⟩ := h; obtain ⟨e, k⟩ := k
  exact ⟨fun n => sub e (d n), fun x => by rw [k x, h x, sub_sub]⟩
theorem ExtU.sub {σ τ : Sg} (h : ExtU σ τ) (hi : Idem σ) (t : T) : sub τ (Go.Proofs.YtdcfemojkdoakaaDoor.sub σ t) = Go.Proofs.YtdcfemojkdoakaaDoor.sub τ t := by
  obtain ⟨d, h⟩ := h
  have e : ∀ t, Go.Proofs.YtdcfemojkdoakaaDoor.sub τ t = Go.Proofs.YtdcfemojkdoakaaDoor.sub d (Go.Proofs.YtdcfemojkdoakaaDoor.sub σ t) := fun t => by rw [sub_sub]; exact sub_ext t fun x _ => h x
  rw [e, hi.twice, ← e]

/-- A variable that has no type yet gets one. -/
structure Binds (σ : Sg) (x : ByteArray) (u : T) (τ : Sg) : Prop where
  free : σ x = .var x
  out : x ∉ vs u
  fix : sub σ u = u
  new : τ = fun n => sub (one x u) (σ n)
theorem one_out {x : ByteArray} {u t : T} (h : x ∉ vs t) : sub (one x u) t = t := sub_id fun _ hy => one_ne u fun e => h (e ▸ hy)
theorem Binds.idem {σ τ : Sg} {x : ByteArray} {u : T} (h : Binds σ x u τ) (hi : Idem σ) : Idem τ := by
  intro z y hy
  rw [h.new] at hy ⊢
  obtain ⟨w, hw, hy⟩ := (vs_sub _).1 hy
  have key : σ y = .var y ∧ y ≠ x := by
    by_cases e : w = x
    · subst e
      rw [one_at] at hy
      refine ⟨?_, fun e => h.out (e ▸ hy)⟩
      have h9 : y ∈ vs (sub σ u) := by rw [h.fix]; exact hy
      exact hi.on h9
    · rw [one_ne u e] at hy
      simp [vs] at hy
      subst hy
      exact ⟨hi z y hw, e⟩
  show sub (one x u) (σ y) = .var y
  rw [key.1]
  exact one_ne u key.2
theorem Binds.ext {σ τ : Sg} {x : ByteArray} {u : T} (h : Binds σ x u τ) : ExtU σ τ := ⟨one x u, fun n => by rw [h.new]⟩
theorem Binds.sub {σ τ : Sg} {x : ByteArray} {u : T} (h : Binds σ x u τ) (t : T) : sub τ t = Go.Proofs.YtdcfemojkdoakaaDoor.sub (one x u) (Go.Proofs.YtdcfemojkdoakaaDoor.sub σ t) := by rw [sub_sub, h.new]
theorem Binds.same {σ τ : Sg} {x : ByteArray} {u a b : T} (h : Binds σ x u τ) (ha : Go.Proofs.YtdcfemojkdoakaaDoor.sub σ a = .var x) (hb : Go.Proofs.YtdcfemojkdoakaaDoor.sub σ b = u) : Go.Proofs.YtdcfemojkdoakaaDoor.sub τ a = Go.Proofs.YtdcfemojkdoakaaDoor.sub τ b := by
  rw [h.sub, h.sub, ha, hb, one_out h.out]
  exact one_at x u
/-- What one step comes to. -/
inductive StepU (u : Sg → T → T → Option UR) (σ : Sg) (a b : T) : Option UR → Prop where
  | same (x : ByteArray) : sub σ a = .var x → sub σ b = .var x → StepU u σ a b (some (.ok σ))
  | left (x : ByteArray) (τ : Sg) : sub σ a = .var x → Binds σ x (sub σ b) τ → StepU u σ a b (some (.ok τ))
  | leftIn (x : ByteArray) : sub σ a = .var x → x ∈ vs (sub σ b) → (sub σ b).isV = false → StepU u σ a b (some (.bad true))
  | right (x : ByteArray) (τ : Sg) : (sub σ a).isV = false → sub σ b = .var x → Binds σ x (sub σ a) τ → StepU u σ a b (some (.ok τ))
  | rightIn (x : ByteArray) : (sub σ a).isV = false → sub σ b = .var x → x ∈ vs (sub σ a) → StepU u σ a b (some (.bad true))
  | parts : (sub σ a).isV = false → (sub σ b).isV = false → (sub σ a).kind = (sub σ b).kind → (sub σ a).name = (sub σ b).name → (sub σ a).kids.length = (sub σ b).kids.length → StepU u σ a b (uniL u σ (sub σ a).kids (sub σ b).kids)
  | bad : (sub σ a).isV = false → (sub σ b).isV = false → ¬ ((sub σ a).kind = (sub σ b).kind ∧ (sub σ a).name = (sub σ b).name ∧ (sub σ a).kids.length = (sub σ b).kids.length) → StepU u σ a b (some (.bad false))
theorem stepU_is (u : Sg → T → T → Option UR) (σ : Sg) (a b : T) (hi : Idem σ) : StepU u σ a b (stepU u σ (sub σ a) (sub σ b)) := by
  unfold stepU
  by_cases ha : (sub σ a).isV = true
  · have ea := isV_var ha
    have hx : σ (sub σ a).name = .var (sub σ a).name := hi.on (t := a) (by rw [ea]; simp [vs, T.name])
    by_cases hs : (sub σ b).isV = true ∧ (sub σ a).name = (sub σ b).name
    · rw [if_pos ⟨ha, hs.1, hs.2⟩]
      exact .same _ ea ((isV_var hs.1).trans (by rw [hs.2]))
    · rw [if_neg (fun h => hs ⟨h.2.1, h.2.2⟩), if_pos ha]
      unfold bindU
      by_cases ho : (sub σ a).name ∈ vs (sub σ b)
      · rw [if_pos ho]
        refine .leftIn _ ea ho ?_
        cases hb : (sub σ b).isV with
        | false => rfl
        | true =>
          rw [isV_var hb] at ho
          simp [vs] at ho
          exact absurd ⟨hb, ho⟩ hs
      · rw [if_neg ho]
        exact .left _ _ ea ⟨hx, ho, hi.twice b, rfl⟩
  · have ha' : (sub σ a).isV = false := by simpa using ha
    rw [if_neg (fun h => ha h.1), if_neg ha]
    by_cases hb : (sub σ b).isV = true
    · have eb := isV_var hb
      have hx : σ (sub σ b).name = .var (sub σ b).name := hi.on (t := b) (by rw [eb]; simp [vs, T.name])
      rw [if_pos hb]
      unfold bindU
      by_cases ho : (sub σ b).name ∈ vs (sub σ a)
      · rw [if_pos ho]; exact .rightIn _ ha' eb ho
      · rw [if_neg ho]; exact .right _ _ ha' eb ⟨hx, ho, hi.twice a, rfl⟩
    · have hb' : (sub σ b).isV = false := by simpa using hb
      rw [if_neg hb]
      by_cases hh : (sub σ a).kind = (sub σ b).kind ∧ (sub σ a).name = (sub σ b).name ∧ (sub σ a).kids.length = (sub σ b).kids.length
      · rw [if_pos hh]; exact .parts ha' hb' hh.1 hh.2.1 hh.2.2
      · rw [if_neg hh]; exact .bad ha' hb' hh
end Go.Proofs.YtdcfemojkdoakaaDoor
/- Two types as one: what is found makes them one; whatever else does goes by it. -/
namespace Go.Proofs.YtdcfemojkdoakaaDoor

theorem kids_same {σ : Sg} {a b : T} (ha : a.isV = false) (hb : b.isV = false) (hk : a.kind = b.kind) (hn : a.name = b.name) (h : a.kids.map (sub σ) = b.kids.map (sub σ)) : sub σ a = sub σ b := by
  obtain ⟨a1, a2, a3, _⟩ := sub_parts σ a ha
  obtain ⟨b1, b2, b3, _⟩ := sub_parts σ b hb
  exact T.ext3 (a1.trans (hk.trans b1.symm)) (a2.trans (hn.trans b2.symm)) (by rw [a3, b3, h])
/-- What is found makes the two one. -/
def Sound (u : Sg → T → T → Option UR) : Prop := ∀ σ a b τ, u σ a b = some (.ok τ) → Idem σ → Idem τ ∧ ExtU σ τ ∧ sub τ a = sub τ b
theorem uniL_sound {u : Sg → T → T → Option UR} (H : Sound u) : ∀ (l m : List T) (σ τ : Sg), l.length = m.length → uniL u σ l m = some (.ok τ) → Idem σ → Idem τ ∧ ExtU σ τ ∧ l.map (sub τ) = m.map (sub τ)
  | [], [], σ, τ, _, h, hi => by
    simp only [uniL, Option.some.injEq, UR.ok.injEq] at h
    subst h; exact ⟨hi, .refl _, rfl⟩
  | [], b :: m, _, _, hl, _, _ => by simp at hl
  | a :: l, [], _, _, hl, _, _ => by simp at hl
  | a :: l, b :: m, σ, τ, hl, h, hi => by
    rw [uniL] at h
    cases e : u σ a b with
    | none => rw [e] at h; cases h
    | some r =>
      rw [e] at h
      cases r with
      | bad q => cases h
      | ok ρ =>
        obtain ⟨h1, h2, h3⟩ := H σ a b ρ e hi
        obtain ⟨k1, k2, k3⟩ := uniL_sound H l m ρ τ (by simpa using hl) h h1
        refine ⟨k1, h2.trans k2, ?_⟩
        have : sub τ a = sub τ b := by rw [← k2.sub h1 a, ← k2.sub h1 b, h3]
        rw [List.map_cons, List.map_cons, k3, this]
theorem uni_sound : ∀ f, Sound (uni f)
  | 0 => fun σ a b τ h _ => by cases h
  | f + 1 => fun σ a b τ h hi => by
    have ih := uni_sound f
    rw [uni] at h
    have hs := stepU_is (uni f) σ a b hi
    rw [h] at hs
    generalize hr : some (UR.ok τ) = r at hs
    cases hs with
    | same x e1 e2 =>
      simp only [Option.some.injEq, UR.ok.injEq] at hr
      subst hr
      exact ⟨hi, .refl _, e1.trans e2.symm⟩
    | left x ρ e1 hb =>
      simp only [Option.some.injEq, UR.ok.injEq] at hr
      subst hr
      exact ⟨hb.idem hi, hb.ext, hb.same e1 rfl⟩
    | leftIn => cases hr
    | right x ρ _ e2 hb =>
      simp only [Option.some.injEq, UR.ok.injEq] at hr
      subst hr
      exact ⟨hb.idem hi, hb.ext, (hb.same e2 rfl).symm⟩
    | rightIn => cases hr
    | parts h1 h2 h3 h4 h5 =>
      obtain ⟨k1, k2, k3⟩ := uniL_sound ih _ _ σ τ h5 hr.symm hi
      refine ⟨k1, k2, ?_⟩
      rw [← k2.sub hi a, ← k2.sub hi b]
      exact kids_same h1 h2 h3 h4 k3
    | bad => cases hr
/-- Types that go by what was found so far. -/
def Goes (θ σ : Sg) : Prop := ∀ x, sub θ (σ x) = θ x
theorem Goes.sub {θ σ : Sg} (h : Goes θ σ) (t : T) : Go.Proofs.YtdcfemojkdoakaaDoor.sub θ (Go.Proofs.YtdcfemojkdoakaaDoor.sub σ t) = Go.Proofs.YtdcfemojkdoakaaDoor.sub θ t := by
  rw [sub_sub]; exact sub_ext t fun x _ => h x
theorem goes_var (θ : Sg) : Goes θ T.var := fun _ => rfl
theorem Goes.binds {θ σ τ : Sg} {x : ByteArray} {u : T} (h : Goes θ σ) (hb : Binds σ x u τ) (e : θ x = Go.Proofs.YtdcfemojkdoakaaDoor.sub θ u) : Goes θ τ := by
  intro y
  rw [hb.new]
  show Go.Proofs.YtdcfemojkdoakaaDoor.sub θ (Go.Proofs.YtdcfemojkdoakaaDoor.sub (one x u) (σ y)) = θ y
  rw [sub_sub, ← h y]
  refine sub_ext _ fun z _ => ?_
  by_cases hz : z = x
  · subst hz; rw [one_at]; exact e.symm
  · rw [one_ne u hz]; rfl
/-- Whatever makes the two one goes by what is found, and it is found. -/
def Most (u : Sg → T → T → Option UR) : Prop := ∀ σ a b r θ, u σ a b = some r → Idem σ → Goes θ σ → sub θ a = sub θ b → ∃ τ, r = .ok τ ∧ Goes θ τ
theorem uniL_most {u : Sg → T → T → Option UR} (S : Sound u) (H : Most u) (θ : Sg) : ∀ (l m : List T) (σ : Sg) (r : UR), l.length = m.length → uniL u σ l m = some r → Idem σ → Goes θ σ → l.map (sub θ) = m.map (sub θ) → ∃ τ, r = .ok τ ∧ Goes θ τ
  | [], [], σ, r, _, h, _, hg, _ => by
    simp only [uniL, Option.some.injEq] at h
    exact ⟨σ, h.symm, hg⟩
  | [], b :: m, _, _, hl, _, _, _, _ => by simp at hl
  | a :: l, [], _, _, hl, _, _, _, _ => by simp at hl
  | a :: l, b :: m, σ, r, hl, h, hi, hg, he => by
    rw [List.map_cons, List.map_cons] at he
    injection he with he1 he2
    rw [uniL] at h
    cases e : u σ a b with
    | none => rw [e] at h; cases h
    | some q =>
      obtain ⟨ρ, rfl, hg2⟩ := H σ a b q θ e hi hg he1
      rw [e] at h
      exact uniL_most S H θ l m ρ r (by simpa using hl) h (S σ a b ρ e hi).1 hg2 he2
theorem occ_not {θ : Sg} {x : ByteArray} {u : T} (hv : u.isV = false) (h : x ∈ vs u) (e : θ x = sub θ u) : False := by
  have := size_sub_lt (σ := θ) hv h
  rw [e] at this; omega
theorem uni_most : ∀ f, Most (uni f)
  | 0 => fun σ a b r θ h _ _ _ => by cases h
  | f + 1 => fun σ a b r θ h hi hg he => by
    have ih := uni_most f
    have is := uni_sound f
    rw [uni] at h
    have hs := stepU_is (uni f) σ a b hi
    rw [h] at hs
    have ea := hg.sub a
    have eb := hg.sub b
    generalize hr : some r = q at hs
    cases hs with
    | same x e1 e2 => injection hr with hr; exact ⟨σ, hr, hg⟩
    | left x ρ e1 hb =>
      injection hr with hr
      refine ⟨ρ, hr, hg.binds hb ?_⟩
      rw [eb, ← he, ← ea, e1]; rfl
    | leftIn x e1 ho hv =>
      refine (occ_not (θ := θ) hv ho ?_).elim
      rw [eb, ← he, ← ea, e1]; rfl
    | right x ρ _ e2 hb =>
      injection hr with hr
      refine ⟨ρ, hr, hg.binds hb ?_⟩
      rw [ea, he, ← eb, e2]; rfl
    | rightIn x hv e2 ho =>
      refine (occ_not (θ := θ) hv ho ?_).elim
      rw [ea, he, ← eb, e2]; rfl
    | parts h1 h2 h3 h4 h5 =>
      refine uniL_most is ih θ _ _ σ r h5 hr.symm hi hg ?_
      have e9 : sub θ (sub σ a) = sub θ (sub σ b) := by rw [ea, eb, he]
      obtain ⟨_, _, a3, _⟩ := sub_parts θ _ h1
      obtain ⟨_, _, b3, _⟩ := sub_parts θ _ h2
      rw [← a3, ← b3, e9]
    | bad h1 h2 hn =>
      have e9 : sub θ (sub σ a) = sub θ (sub σ b) := by rw [ea, eb, he]
      obtain ⟨a1, a2, a3, _⟩ := sub_parts θ _ h1
      obtain ⟨b1, b2, b3, _⟩ := sub_parts θ _ h2
      refine (hn ⟨?_, ?_, ?_⟩).elim
      · rw [← a1, ← b1, e9]
      · rw [← a2, ← b2, e9]
      · have := congrArg (fun t => t.kids.length) e9
        simp only [a3, b3, List.length_map] at this
        exact this
/-- More fuel finds the same. -/
theorem uniL_more {u v : Sg → T → T → Option UR} (H : ∀ σ a b r, u σ a b = some r → v σ a b = some r) : ∀ (l m : List T) (σ : Sg) (r : UR), uniL u σ l m = some r → uniL v σ l m = some r
  | [], _, σ, r, h => by simpa [uniL] using h
  | _ :: _, [], σ, r, h => by simpa [uniL] using h
  | a :: l, b :: m, σ, r, h => by
    rw [uniL] at h ⊢
    cases e : u σ a b with
    | none => rw [e] at h; cases h
    | some q =>
      rw [e] at h
      rw [H σ a b q e]
      cases q with
      | bad => exact h
      | ok ρ => exact uniL_more H l m ρ r h
theorem uni_succ : ∀ f σ a b r, uni f σ a b = some r → uni (f + 1) σ a b = some r
  | 0, _, _, _, _, h => by cases h
  | f + 1, σ, a, b, r, h => by
    rw [uni] at h ⊢
    unfold stepU at h ⊢
    by_cases c1 : (sub σ a).isV = true ∧ (sub σ b).isV = true ∧ (sub σ a).name = (sub σ b).name
    · rwa [if_pos c1] at h ⊢
    · rw [if_neg c1] at h ⊢
      by_cases c2 : (sub σ a).isV = true
      · rwa [if_pos c2] at h ⊢
      · rw [if_neg c2] at h ⊢
        by_cases c3 : (sub σ b).isV = true
        · rwa [if_pos c3] at h ⊢
        · rw [if_neg c3] at h ⊢
          by_cases c4 : (sub σ a).kind = (sub σ b).kind ∧ (sub σ a).name = (sub σ b).name ∧ (sub σ a).kids.length = (sub σ b).kids.length
          · rw [if_pos c4] at h ⊢
            exact uniL_more (uni_succ f) _ _ _ _ h
          · rwa [if_neg c4] at h ⊢
theorem uni_le {f g : Nat} (hfg : f ≤ g) {σ : Sg} {a b : T} {r : UR} (h : uni f σ a b = some r) : uni g σ a b = some r := by
  obtain ⟨k, rfl⟩ : ∃ k, g = f + k := ⟨g - f, by omega⟩
  clear hfg
  induction k with
  | zero => exact h
  | succ k ih => exact uni_succ _ _ _ _ _ ih
/-- What two types come to, whatever the fuel. -/
def Uni (σ : Sg) (a b : T) (r : UR) : Prop := ∃ f, uni f σ a b = some r
theorem Uni.only {σ : Sg} {a b : T} {r q : UR} (h : Uni σ a b r) (k : Uni σ a b q) : r = q := by
  obtain ⟨f, h⟩ := h; obtain ⟨g, k⟩ := k
  have h1 := uni_le (Nat.le_max_left f g) h
  have k1 := uni_le (Nat.le_max_right f g) k
  rw [h1] at k1; injection k1
theorem Uni.sound {σ τ : Sg} {a b : T} (h : Uni σ a b (.ok τ)) (hi : Idem σ) : Idem τ ∧ ExtU σ τ ∧ sub τ a = sub τ b := by
  obtain ⟨f, h⟩ := h; exact uni_sound f σ a b τ h hi
theorem Uni.most {σ θ : Sg} {a b : T} {r : UR} (h : Uni σ a b r) (hi : Idem σ) (hg : Goes θ σ) (he : sub θ a = sub θ b) : ∃ τ, r = .ok τ ∧ Goes θ τ := by
  obtain ⟨f, h⟩ := h; exact uni_most f σ a b r θ h hi hg he
end Go.Proofs.YtdcfemojkdoakaaDoor
/- Two types as one: it ends; how great what is found can be. -/
namespace Go.Proofs.YtdcfemojkdoakaaDoor

theorem filter_lt {α : Type} {p q : α → Bool} : ∀ {l : List α}, (∀ y ∈ l, q y = true → p y = true) → (∃ x ∈ l, p x = true ∧ q x = false) → (l.filter q).length < (l.filter p).length
  | [], _, h => by obtain ⟨x, hx, _⟩ := h; cases hx
  | a :: l, h, he => by
    have hle : (l.filter q).length ≤ (l.filter p).length := by
      clear he
      induction l with
      | nil => simp
      | cons b l ih =>
        have h1 := ih fun y hy => h y (by rcases List.mem_cons.1 hy with rfl | hy <;> simp [*])
        have hb := h b (by simp)
        rw [List.filter_cons, List.filter_cons]
        cases eq : q b with
        | false => cases ep : p b <;> simp <;> omega
        | true => rw [hb eq]; simp; omega
    obtain ⟨x, hx, hp, hq⟩ := he
    rw [List.filter_cons, List.filter_cons]
    rcases List.mem_cons.1 hx with rfl | hx
    · rw [hp, hq]; simp; omega
    · have := filter_lt (fun y hy => h y (List.mem_cons_of_mem _ hy)) ⟨x, hx, hp, hq⟩
      have ha := h a (by simp)
      cases eq : q a with
      | false => cases ep : p a <;> simp <;> omega
      | true => rw [ha eq]; simp; omega
open Classical in
/-- How many of these variables have no type yet. -/
noncomputable def uns (V : List ByteArray) (σ : Sg) : Nat := (V.filter fun x => decide (σ x = .var x)).length
def VIn (V : List ByteArray) (σ : Sg) : Prop := ∀ x ∈ V, ∀ y ∈ vs (σ x), y ∈ V
def TIn (V : List ByteArray) (t : T) : Prop := ∀ x ∈ vs t, x ∈ V
theorem VIn.sub {V : List ByteArray} {σ : Sg} (h : VIn V σ) {t : T} (ht : TIn V t) : TIn V (Go.Proofs.YtdcfemojkdoakaaDoor.sub σ t) := by
  intro y hy
  obtain ⟨x, hx, hy⟩ := (vs_sub t).1 hy
  exact h x (ht x hx) y hy
theorem vin_var (V : List ByteArray) : VIn V T.var := fun x hx y hy => by simp [vs] at hy; exact hy ▸ hx
theorem TIn.kid {V : List ByteArray} {t k : T} (h : TIn V t) (hv : t.isV = false) (hk : k ∈ t.kids) : TIn V k := fun x hx => h x ((vs_kids hv).2 ⟨k, hk, hx⟩)
theorem Binds.still {σ τ : Sg} {x y : ByteArray} {u : T} (h : Binds σ x u τ) (e : τ y = .var y) : σ y = .var y := by
  rw [h.new] at e
  have e : Go.Proofs.YtdcfemojkdoakaaDoor.sub (one x u) (σ y) = .var y := e
  cases hv : (σ y).isV with
  | false =>
    have := (sub_parts (one x u) _ hv).2.2.2
    rw [e] at this; cases this
  | true =>
    have ez := isV_var hv
    rw [ez] at e
    have e : one x u (σ y).name = .var y := e
    by_cases hz : (σ y).name = x
    · rw [hz, one_at] at e
      have := h.fix
      rw [e] at this
      exact this
    · rw [one_ne u hz] at e
      rw [ez]; exact e
open Classical in
theorem Binds.fewer {V : List ByteArray} {σ τ : Sg} {x : ByteArray} {u : T} (h : Binds σ x u τ) (hx : x ∈ V) : uns V τ < uns V σ := by
  unfold uns
  refine filter_lt (fun y _ hy => decide_eq_true (h.still (of_decide_eq_true hy))) ⟨x, hx, decide_eq_true h.free, decide_eq_false fun e => ?_⟩
  rw [h.new] at e
  have e : Go.Proofs.YtdcfemojkdoakaaDoor.sub (one x u) (σ x) = .var x := e
  rw [h.free] at e
  have e : one x u x = .var x := e
  rw [one_at] at e
  exact h.out (by rw [e]; simp [vs])
theorem Binds.vin {V : List ByteArray} {σ τ : Sg} {x : ByteArray} {u : T} (h : Binds σ x u τ) (hi : VIn V σ) (hu : TIn V u) : VIn V τ := by
  intro z hz y hy
  rw [h.new] at hy
  obtain ⟨w, hw, hy⟩ := (vs_sub _).1 hy
  by_cases e : w = x
  · subst e; rw [one_at] at hy; exact hu y hy
  · rw [one_ne u e] at hy
    simp [vs] at hy
    exact hy ▸ hi z hz w hw
def AfterU (V : List ByteArray) (σ : Sg) (r : UR) : Prop := ∀ τ, r = .ok τ → VIn V τ ∧ (τ = σ ∨ uns V τ < uns V σ)
theorem ends_list (V : List ByteArray) (σ0 : Sg) (h0 : Idem σ0) (v0 : VIn V σ0) : ∀ (l m : List T)
    (_ : ∀ k ∈ l, ∀ k' ∈ m, ∃ r, Uni σ0 k k' r ∧ AfterU V σ0 r)
    (_ : ∀ σ, Idem σ → VIn V σ → uns V σ < uns V σ0 → ∀ k ∈ l, ∀ k' ∈ m, ∃ r, Uni σ k k' r ∧ AfterU V σ r)
    (σ : Sg) (_ : σ = σ0 ∨ Idem σ ∧ VIn V σ ∧ uns V σ < uns V σ0), ∃ f r, uniL (uni f) σ l m = some r ∧ AfterU V σ0 r
  | [], m, _, _, σ, hs => by
    refine ⟨0, .ok σ, by simp [uniL], fun τ e => ?_⟩
    injection e with e
    subst e
    rcases hs with rfl | hs
    · exact ⟨v0, .inl rfl⟩
    · exact ⟨hs.2.1, .inr hs.2.2⟩
  | a :: l, [], _, _, σ, hs => by
    refine ⟨0, .ok σ, by simp [uniL], fun τ e => ?_⟩
    injection e with e
    subst e
    rcases hs with rfl | hs
    · exact ⟨v0, .inl rfl⟩
    · exact ⟨hs.2.1, .inr hs.2.2⟩
  | a :: l, b :: m, H1, H2, σ, hs => by
    have hiv : Idem σ ∧ VIn V σ := by
      rcases hs with rfl | hs
      · exact ⟨h0, v0⟩
      · exact ⟨hs.1, hs.2.1⟩
    obtain ⟨r, ⟨f, hf⟩, hr⟩ : ∃ r, Uni σ a b r ∧ AfterU V σ r := by
      rcases hs with rfl | hs
      · exact H1 a (by simp) b (by simp)
      · exact H2 σ hs.1 hs.2.1 hs.2.2 a (by simp) b (by simp)
    cases r with
    | bad e =>
      refine ⟨f, .bad e, by rw [uniL, hf], fun τ e => by cases e⟩
    | ok ρ =>
      have hρ := hr ρ rfl
      have hs2 : ρ = σ0 ∨ Idem ρ ∧ VIn V ρ ∧ uns V ρ < uns V σ0 := by
        have i1 := (uni_sound f σ a b ρ hf hiv.1).1
        rcases hρ.2 with e | e
        · rw [e]; exact hs
        · refine .inr ⟨i1, hρ.1, ?_⟩
          rcases hs with rfl | hs
          · exact e
          · exact Nat.lt_trans e hs.2.2
      obtain ⟨g, q, hg, hq⟩ := ends_list V σ0 h0 v0 l m (fun k hk k' hk' => H1 k (List.mem_cons_of_mem _ hk) k' (List.mem_cons_of_mem _ hk')) (fun σ a b c k hk k' hk' => H2 σ a b c k (List.mem_cons_of_mem _ hk) k' (List.mem_cons_of_mem _ hk')) ρ hs2
      refine ⟨max f g, q, ?_, hq⟩
      rw [uniL, uni_le (Nat.le_max_left f g) hf]
      exact uniL_more (fun _ _ _ _ h => uni_le (Nat.le_max_right f g) h) l m ρ q hg
theorem uni_ends (V : List ByteArray) (n : Nat) : ∀ (m : Nat) (σ : Sg) (a b : T), Idem σ → VIn V σ → TIn V a → TIn V b → uns V σ ≤ n → tsize (sub σ a) ≤ m → ∃ r, Uni σ a b r ∧ AfterU V σ r := by
  induction n using Nat.strongRecOn with
  | ind n ihn =>
    intro m
    induction m with
    | zero => intro σ a b _ _ _ _ _ h; have := tsize_pos (sub σ a); omega
    | succ m ihm =>
      intro σ a b hi hv ha hb hn hm
      have ta := hv.sub ha
      have tb := hv.sub hb
      have hs : ∀ f, StepU (uni f) σ a b (uni (f + 1) σ a b) := fun f => by rw [uni]; exact stepU_is (uni f) σ a b hi
      have fin : ∀ r, uni 1 σ a b = some r → AfterU V σ r → ∃ r, Uni σ a b r ∧ AfterU V σ r := fun r h k => ⟨r, ⟨1, h⟩, k⟩
      have h1 := hs 0
      generalize hr : uni 1 σ a b = r1 at h1
      have hbd : ∀ {x : ByteArray} {u : T} {τ : Sg}, Binds σ x u τ → TIn V u → x ∈ V → AfterU V σ (.ok τ) := fun {x u τ} hb hu hx τ' e => by
        injection e with e
        subst e
        exact ⟨hb.vin hv hu, .inr (hb.fewer hx)⟩
      cases h1 with
      | same x e1 e2 => exact fin _ hr fun τ e => by injection e with e; exact ⟨e ▸ hv, .inl e.symm⟩
      | left x τ e1 h => exact fin _ hr (hbd h tb (ta x (by rw [e1]; simp [vs])))
      | leftIn => exact fin _ hr fun τ e => by cases e
      | right x τ _ e2 h => exact fin _ hr (hbd h ta (tb x (by rw [e2]; simp [vs])))
      | rightIn => exact fin _ hr fun τ e => by cases e
      | bad => exact fin _ hr fun τ e => by cases e
      | parts p1 p2 p3 p4 p5 =>
        clear hr fin hbd
        obtain ⟨f, r, hf, hA⟩ := ends_list V σ hi hv (sub σ a).kids (sub σ b).kids
          (fun k hk k' hk' => ihm σ k k' hi hv (ta.kid p1 hk) (tb.kid p2 hk') hn (by
            have e : sub σ k = k := sub_id fun y hy => hi.on (t := a) ((vs_kids p1).2 ⟨k, hk, hy⟩)
            rw [e]; have := tsize_kid hk; omega))
          (fun ρ i1 i2 i3 k hk k' hk' => ihn (uns V ρ) (by omega) (tsize (sub ρ k)) ρ k k' i1 i2 (ta.kid p1 hk) (tb.kid p2 hk') (Nat.le_refl _) (Nat.le_refl _))
          σ (.inl rfl)
        refine ⟨r, ⟨f + 1, ?_⟩, hA⟩
        have h2 := hs f
        generalize uni (f + 1) σ a b = q at h2
        cases h2 with
        | parts => exact hf
        | same x e1 e2 => rw [e1] at p1; cases p1
        | left x τ e1 => rw [e1] at p1; cases p1
        | leftIn x e1 => rw [e1] at p1; cases p1
        | right x τ _ e2 => rw [e2] at p2; cases p2
        | rightIn x _ e2 => rw [e2] at p2; cases p2
        | bad _ _ hn => exact (hn ⟨p3, p4, p5⟩).elim
theorem uni_total (V : List ByteArray) (σ : Sg) (a b : T) (hi : Idem σ) (hv : VIn V σ) (ha : TIn V a) (hb : TIn V b) : ∃ r, Uni σ a b r ∧ AfterU V σ r :=
  uni_ends V _ _ σ a b hi hv ha hb (Nat.le_refl _) (Nat.le_refl _)

/-- Each variable's type is made of a part that was there at the start. -/
def FromU (O : T → Prop) (σ : Sg) : Prop := ∀ x, (σ x).isV = true ∨ ∃ t, O t ∧ t.isV = false ∧ σ x = sub σ t
def InstU (O : T → Prop) (σ : Sg) (a : T) : Prop := ∃ o, O o ∧ sub σ a = sub σ o
theorem from_var (O : T → Prop) : FromU O T.var := fun _ => .inl rfl
theorem InstU.of {O : T → Prop} {σ : Sg} {a : T} (h : O a) : InstU O σ a := ⟨a, h, rfl⟩
theorem InstU.ext {O : T → Prop} {σ τ : Sg} {a : T} (h : InstU O σ a) (he : ExtU σ τ) (hi : Idem σ) : InstU O τ a := by
  obtain ⟨o, h, e⟩ := h
  exact ⟨o, h, by rw [← he.sub hi a, e, he.sub hi]⟩
/-- A type that is no variable is what a part at the start, none either, came to. -/
theorem InstU.solid {O : T → Prop} {σ : Sg} {a : T} (h : InstU O σ a) (hF : FromU O σ) (hv : (sub σ a).isV = false) : ∃ o, O o ∧ o.isV = false ∧ sub σ a = sub σ o := by
  obtain ⟨o, h, e⟩ := h
  cases ho : o.isV with
  | false => exact ⟨o, h, ho, e⟩
  | true =>
    have eo := isV_var ho
    rcases hF o.name with h1 | ⟨t, ht, hvt, et⟩
    · have h9 : (sub σ o).isV = true := by rw [eo]; exact h1
      rw [e, h9] at hv; cases hv
    · exact ⟨t, ht, hvt, e.trans (by rw [eo]; exact et)⟩
theorem InstU.kid {O : T → Prop} (hO : ∀ t, O t → ∀ k ∈ t.kids, O k) {σ : Sg} {a k : T} (h : InstU O σ a) (hF : FromU O σ) (hi : Idem σ) (hv : (sub σ a).isV = false) (hk : k ∈ (sub σ a).kids) : InstU O σ k := by
  obtain ⟨o, h, ho, e⟩ := h.solid hF hv
  rw [e, (sub_parts σ o ho).2.2.1] at hk
  obtain ⟨k0, hk0, rfl⟩ := List.mem_map.1 hk
  exact ⟨k0, hO o h k0 hk0, hi.twice k0⟩
theorem Binds.from {O : T → Prop} {σ τ : Sg} {x : ByteArray} {a : T} (h : Binds σ x (Go.Proofs.YtdcfemojkdoakaaDoor.sub σ a) τ) (hF : FromU O σ) (ha : InstU O σ a) : FromU O τ := by
  have hin : ∀ {t : T} {v : T}, t.isV = false → v = Go.Proofs.YtdcfemojkdoakaaDoor.sub σ t → v.isV = false := fun {t v} ht e => by rw [e]; exact (sub_parts σ t ht).2.2.2
  intro y
  have ey : τ y = Go.Proofs.YtdcfemojkdoakaaDoor.sub (one x (Go.Proofs.YtdcfemojkdoakaaDoor.sub σ a)) (σ y) := by rw [h.new]
  rcases hF y with hv | ⟨t, ht, hvt, et⟩
  · have ez := isV_var hv
    by_cases hz : (σ y).name = x
    · have e1 : τ y = Go.Proofs.YtdcfemojkdoakaaDoor.sub σ a := by rw [ey, ez, hz]; exact one_at _ _
      cases hu : (Go.Proofs.YtdcfemojkdoakaaDoor.sub σ a).isV with
      | true => exact .inl (by rw [e1]; exact hu)
      | false =>
        obtain ⟨o, ho, hvo, eo⟩ := ha.solid hF hu
        refine .inr ⟨o, ho, hvo, ?_⟩
        rw [e1, h.sub o, ← eo, one_out h.out]
    · refine .inl ?_
      rw [ey, ez]
      show (one x (Go.Proofs.YtdcfemojkdoakaaDoor.sub σ a) (σ y).name).isV = true
      rw [one_ne _ hz]; rfl
  · refine .inr ⟨t, ht, hvt, ?_⟩
    rw [ey, et, h.sub t]
def FromKeeps (O : T → Prop) (u : Sg → T → T → Option UR) : Prop := ∀ σ a b τ, u σ a b = some (.ok τ) → Idem σ → FromU O σ → InstU O σ a → InstU O σ b → FromU O τ
theorem uniL_from {O : T → Prop} {u : Sg → T → T → Option UR} (S : Sound u) (H : FromKeeps O u) : ∀ (l m : List T) (σ τ : Sg), uniL u σ l m = some (.ok τ) → Idem σ → FromU O σ → (∀ k ∈ l, InstU O σ k) → (∀ k ∈ m, InstU O σ k) → FromU O τ
  | [], m, σ, τ, h, _, hF, _, _ => by
    simp only [uniL, Option.some.injEq, UR.ok.injEq] at h
    subst h; exact hF
  | a :: l, [], σ, τ, h, _, hF, _, _ => by
    simp only [uniL, Option.some.injEq, UR.ok.injEq] at h
    subst h; exact hF
  | a :: l, b :: m, σ, τ, h, hi, hF, hl, hm => by
    rw [uniL] at h
    cases e : u σ a b with
    | none => rw [e] at h; cases h
    | some r =>
      rw [e] at h
      cases r with
      | bad q => cases h
      | ok ρ =>
        obtain ⟨h1, h2, _⟩ := S σ a b ρ e hi
        exact uniL_from S H l m ρ τ h h1 (H σ a b ρ e hi hF (hl a (by simp)) (hm b (by simp)))
          (fun k hk => (hl k (List.mem_cons_of_mem _ hk)).ext h2 hi) (fun k hk => (hm k (List.mem_cons_of_mem _ hk)).ext h2 hi)
theorem uni_from {O : T → Prop} (hO : ∀ t, O t → ∀ k ∈ t.kids, O k) : ∀ f, FromKeeps O (uni f)
  | 0 => fun σ a b τ h _ _ _ _ => by cases h
  | f + 1 => fun σ a b τ h hi hF ha hb => by
    have ih := uni_from hO f
    rw [uni] at h
    have hs := stepU_is (uni f) σ a b hi
    rw [h] at hs
    generalize hr : some (UR.ok τ) = r at hs
    cases hs with
    | same x e1 e2 =>
      simp only [Option.some.injEq, UR.ok.injEq] at hr
      subst hr
      exact hF
    | left x ρ e1 h =>
      simp only [Option.some.injEq, UR.ok.injEq] at hr
      subst hr
      exact h.from hF hb
    | leftIn => cases hr
    | right x ρ _ e2 h =>
      simp only [Option.some.injEq, UR.ok.injEq] at hr
      subst hr
      exact h.from hF ha
    | rightIn => cases hr
    | parts h1 h2 h3 h4 h5 => exact uniL_from (uni_sound f) ih _ _ σ τ hr.symm hi hF (fun k hk => ha.kid hO hF hi h1 hk) (fun k hk => hb.kid hO hF hi h2 hk)
    | bad => cases hr
theorem Uni.from {O : T → Prop} (hO : ∀ t, O t → ∀ k ∈ t.kids, O k) {σ τ : Sg} {a b : T} (h : Uni σ a b (.ok τ)) (hi : Idem σ) (hF : FromU O σ) (ha : InstU O σ a) (hb : InstU O σ b) : FromU O τ := by
  obtain ⟨f, h⟩ := h; exact uni_from hO f σ a b τ h hi hF ha hb
/-- A type's size with types for its variables. -/
theorem size_subs {σ : Sg} {M : Nat} (hM : 1 ≤ M) : ∀ t, (∀ y ∈ vs t, tsize (σ y) ≤ M) → tsize (sub σ t) ≤ tsize t * M := by
  refine T.kidsInd fun t ih h => ?_
  cases hv : t.isV with
  | true =>
    rw [isV_var hv] at h ⊢
    have := h t.name (by simp [vs])
    simpa [sub, tsize] using this
  | false =>
    obtain ⟨_, _, a3, _⟩ := sub_parts σ t hv
    rw [tsize_eq, a3, tsize_eq t]
    have key : ∀ l : List T, (∀ k ∈ l, tsize (sub σ k) ≤ tsize k * M) → tsizes (l.map (sub σ)) ≤ tsizes l * M := by
      intro l
      induction l with
      | nil => intro _; simp [tsizes]
      | cons a l ih2 =>
        intro hl
        have h1 := hl a (by simp)
        have h2 := ih2 fun k hk => hl k (List.mem_cons_of_mem _ hk)
        rw [List.map_cons, tsizes, tsizes, Nat.add_mul]; omega
    have := key t.kids fun k hk => ih k hk fun y hy => h y ((vs_kids hv).2 ⟨k, hk, hy⟩)
    rw [Nat.add_mul]; omega
noncomputable def rankU (V : List ByteArray) (σ : Sg) (x : ByteArray) : Nat := (V.filter fun y => decide (tsize (σ y) < tsize (σ x))).length
theorem rank_lt {V : List ByteArray} {σ : Sg} {x y : ByteArray} (hy : y ∈ V) (h : tsize (σ y) < tsize (σ x)) : rankU V σ y < rankU V σ x := by
  unfold rankU
  refine filter_lt (fun z _ hz => decide_eq_true (Nat.lt_trans (of_decide_eq_true hz) h)) ⟨y, hy, decide_eq_true h, decide_eq_false (Nat.lt_irrefl _)⟩
theorem rank_in {V : List ByteArray} {σ : Sg} {x : ByteArray} (hx : x ∈ V) : rankU V σ x < V.length := by
  have := filter_lt (l := V) (p := fun _ => true) (q := fun y => decide (tsize (σ y) < tsize (σ x))) (fun _ _ _ => rfl) ⟨x, hx, rfl, decide_eq_false (Nat.lt_irrefl _)⟩
  have e : V.filter (fun _ => true) = V := by simp
  rw [e] at this
  exact this
/-- How great a variable's type can be. -/
theorem from_size {O : T → Prop} {V : List ByteArray} {σ : Sg} {N : Nat} (hF : FromU O σ) (hV : ∀ t, O t → t.isV = false → TIn V t) (hN : ∀ t, O t → tsize t ≤ N) (h1 : 1 ≤ N) : ∀ n x, tsize (σ x) ≤ n → tsize (σ x) ≤ N ^ (rankU V σ x + 1) := by
  intro n
  induction n with
  | zero => intro x h; have := tsize_pos (σ x); omega
  | succ n ih =>
    intro x hx
    have hp : 1 ≤ N ^ (rankU V σ x + 1) := Nat.one_le_pow _ _ h1
    rcases hF x with hv | ⟨t, ht, hvt, et⟩
    · rw [isV_var hv]; simpa [tsize] using hp
    · have hp' : 1 ≤ N ^ rankU V σ x := Nat.one_le_pow _ _ h1
      have := size_subs (σ := σ) hp' t fun y hy => by
        have hlt : tsize (σ y) < tsize (σ x) := by rw [et]; exact size_sub_lt hvt hy
        have h2 := ih y (by omega)
        have h3 := rank_lt (hV t ht hvt y hy) hlt
        exact Nat.le_trans h2 (Nat.pow_le_pow_right h1 h3)
      rw [et] at hx ⊢
      rw [← et] at hx ⊢
      have h9 := Nat.mul_le_mul_right (N ^ rankU V σ x) (hN t ht)
      rw [Nat.pow_succ, Nat.mul_comm, et]
      exact Nat.le_trans this h9
theorem from_le {O : T → Prop} {V : List ByteArray} {σ : Sg} {N : Nat} (hF : FromU O σ) (hV : ∀ t, O t → t.isV = false → TIn V t) (hN : ∀ t, O t → tsize t ≤ N) (h1 : 1 ≤ N) {x : ByteArray} (hx : x ∈ V) : tsize (σ x) ≤ N ^ V.length :=
  Nat.le_trans (from_size hF hV hN h1 _ x (Nat.le_refl _)) (Nat.pow_le_pow_right h1 (rank_in hx))
theorem from_le' {O : T → Prop} {V : List ByteArray} {σ : Sg} {N : Nat} (hF : FromU O σ) (hV : ∀ t, O t → t.isV = false → TIn V t) (hN : ∀ t, O t → tsize t ≤ N) (h1 : 1 ≤ N) (x : ByteArray) : tsize (σ x) ≤ N ^ (V.length + 1) := by
  refine Nat.le_trans (from_size hF hV hN h1 _ x (Nat.le_refl _)) (Nat.pow_le_pow_right h1 ?_)
  have := List.length_filter_le (fun y => decide (tsize (σ y) < tsize (σ x))) V
  unfold rankU; omega
end Go.Proofs.YtdcfemojkdoakaaDoor
/- A graph of parts, in which two parts are made one: what the program's unification keeps, as plain data. -/
namespace Go.Proofs.YtdcfemojkdoakaaDoor

/-- Parts as they were laid: each a type, its arguments are parts that were laid ahead of it; each variable once. -/
structure Gr where
  N : Nat
  tr : Nat → T
  ag : Nat → List Nat
structure Gr.OK (G : Gr) : Prop where
  kids : ∀ i, i < G.N → (G.tr i).kids = (G.ag i).map G.tr
  low : ∀ i, i < G.N → ∀ x ∈ G.ag i, x < i
  vars : ∀ i j, i < G.N → j < G.N → (G.tr i).isV = true → G.tr i = G.tr j → i = j
  three : ∀ i, i < G.N → (G.tr i).kind ≠ 4
theorem Gr.OK.var_no {G : Gr} (h : G.OK) {i : Nat} (hi : i < G.N) (hv : (G.tr i).isV = true) : G.ag i = [] := by
  have := h.kids i hi
  rw [isV_var hv] at this
  simpa [T.kids] using this.symm
theorem Gr.OK.arg {G : Gr} (h : G.OK) {i x : Nat} (hi : i < G.N) (hx : x ∈ G.ag i) : x < G.N := Nat.lt_trans (h.low i hi x hx) hi
theorem Gr.OK.len {G : Gr} (h : G.OK) {i : Nat} (hi : i < G.N) : (G.tr i).kids.length = (G.ag i).length := by rw [h.kids i hi, List.length_map]
/-- What parts have become one with: rt i is where part i's way ends. -/
structure GI (G : Gr) (rt : Nat → Nat) : Prop where
  ok : G.OK
  lt : ∀ i, i < G.N → rt i < G.N
  fix : ∀ i, i < G.N → rt (rt i) = rt i
  con : ∀ i j, i < G.N → j < G.N → rt i = rt j → (G.tr i).isV = false → (G.tr j).isV = false → (G.tr i).kind = (G.tr j).kind ∧ (G.tr i).name = (G.tr j).name ∧ (G.ag i).map rt = (G.ag j).map rt
  nv : ∀ i, i < G.N → (G.tr i).isV = false → (G.tr (rt i)).isV = false
/-- Part a goes where part b goes. -/
def un (rt : Nat → Nat) (a b : Nat) : Nat → Nat := fun i => if rt i = a then b else rt i
def ren (a b : Nat) : Nat → Nat := fun i => if i = a then b else i
theorem un_ren (rt : Nat → Nat) (a b i : Nat) : un rt a b i = ren a b (rt i) := rfl
theorem ren_at (a b : Nat) : ren a b a = b := by simp [ren]
theorem ren_ne {a b i : Nat} (h : i ≠ a) : ren a b i = i := by simp [ren, h]
theorem un_same {rt : Nat → Nat} {i j : Nat} (a b : Nat) (h : rt i = rt j) : un rt a b i = un rt a b j := by rw [un_ren, un_ren, h]
theorem map_un (rt : Nat → Nat) (a b : Nat) (l : List Nat) : l.map (un rt a b) = (l.map rt).map (ren a b) := by rw [List.map_map]; rfl
/-- Two roots, of which the first is a variable, or which have the same arguments. -/
def Like (G : Gr) (rt : Nat → Nat) (a b : Nat) : Prop := (G.tr a).isV = false ∧ (G.tr b).isV = false ∧ (G.tr a).kind = (G.tr b).kind ∧ (G.tr a).name = (G.tr b).name ∧ (G.ag a).map rt = (G.ag b).map rt
theorem GI.un {G : Gr} {rt : Nat → Nat} {a b : Nat} (h : GI G rt) (ha : a < G.N) (hb : b < G.N) (ra : rt a = a) (rb : rt b = b) (hne : a ≠ b) (hl : (G.tr a).isV = true ∨ Like G rt a b) : GI G (un rt a b) := by
  have hb' : Go.Proofs.YtdcfemojkdoakaaDoor.un rt a b b = b := by rw [un_ren, rb, ren_ne (fun e => hne e.symm)]
  refine ⟨h.ok, fun i hi => ?_, fun i hi => ?_, fun i j hi hj e vi vj => ?_, fun i hi vi => ?_⟩
  · by_cases e : rt i = a
    · rw [un_ren, e, ren_at]; exact hb
    · rw [un_ren, ren_ne e]; exact h.lt i hi
  · by_cases e : rt i = a
    · have : Go.Proofs.YtdcfemojkdoakaaDoor.un rt a b i = b := by rw [un_ren, e, ren_at]
      rw [this, hb']
    · have : Go.Proofs.YtdcfemojkdoakaaDoor.un rt a b i = rt i := by rw [un_ren, ren_ne e]
      rw [this, un_ren, h.fix i hi, ren_ne e]
  · have key : rt i = rt j → (G.tr i).kind = (G.tr j).kind ∧ (G.tr i).name = (G.tr j).name ∧ (G.ag i).map (Go.Proofs.YtdcfemojkdoakaaDoor.un rt a b) = (G.ag j).map (Go.Proofs.YtdcfemojkdoakaaDoor.un rt a b) := fun e => by
      obtain ⟨h1, h2, h3⟩ := h.con i j hi hj e vi vj
      exact ⟨h1, h2, by rw [map_un, map_un, h3]⟩
    by_cases ei : rt i = a
    · by_cases ej : rt j = a
      · exact key (ei.trans ej.symm)
      · rw [un_ren, un_ren, ei, ren_at, ren_ne ej] at e
        have va : (G.tr a).isV = false := by rw [← ei]; exact h.nv i hi vi
        rcases hl with hl | ⟨l1, l2, l3, l4, l5⟩
        · rw [hl] at va; cases va
        · obtain ⟨h1, h2, h3⟩ := h.con i a hi ha (ei.trans ra.symm) vi l1
          obtain ⟨k1, k2, k3⟩ := h.con b j hb hj (rb.trans e) l2 vj
          exact ⟨h1.trans (l3.trans k1), h2.trans (l4.trans k2), by rw [map_un, map_un, h3, l5, k3]⟩
    · by_cases ej : rt j = a
      · rw [un_ren, un_ren, ej, ren_at, ren_ne ei] at e
        have va : (G.tr a).isV = false := by rw [← ej]; exact h.nv j hj vj
        rcases hl with hl | ⟨l1, l2, l3, l4, l5⟩
        · rw [hl] at va; cases va
        · obtain ⟨h1, h2, h3⟩ := h.con i b hi hb (e.trans rb.symm) vi l2
          obtain ⟨k1, k2, k3⟩ := h.con a j ha hj (ra.trans ej.symm) l1 vj
          exact ⟨h1.trans (l3.symm.trans k1), h2.trans (l4.symm.trans k2), by rw [map_un, map_un, h3, ← l5, k3]⟩
      · rw [un_ren, un_ren, ren_ne ei, ren_ne ej] at e
        exact key e
  · by_cases ei : rt i = a
    · have va : (G.tr a).isV = false := by rw [← ei]; exact h.nv i hi vi
      rcases hl with hl | ⟨_, l2, _⟩
      · rw [hl] at va; cases va
      · rw [un_ren, ei, ren_at]; exact l2
    · rw [un_ren, ren_ne ei]; exact h.nv i hi vi

/-- Each part is above its arguments. -/
def Meas (G : Gr) (rt m : Nat → Nat) : Prop := ∀ i, i < G.N → rt i = i → ∀ x ∈ G.ag i, m (rt x) < m i
/-- No part stands within itself. -/
def Acyc (G : Gr) (rt : Nat → Nat) : Prop := ∃ m : Nat → Nat, Meas G rt m
theorem Meas.back {G : Gr} {rt m : Nat → Nat} {a b : Nat} (h : GI G rt) (ha : a < G.N) (hb : b < G.N) (rb : rt b = b) (hne : a ≠ b) (hl : (G.tr a).isV = true ∨ Like G rt a b) (hm : Meas G (un rt a b) m) : Meas G rt (fun r => m (ren a b r)) := by
  have hb' : un rt a b b = b := by rw [un_ren, rb, ren_ne (fun e => hne e.symm)]
  intro i hi ri x hx
  by_cases e : i = a
  · subst e
    rcases hl with hl | ⟨_, _, _, _, l5⟩
    · rw [h.ok.var_no hi hl] at hx; cases hx
    · have : rt x ∈ (G.ag b).map rt := by rw [← l5]; exact List.mem_map.2 ⟨x, hx, rfl⟩
      obtain ⟨y, hy, ey⟩ := List.mem_map.1 this
      have := hm b hb hb' y hy
      rw [un_ren, ey] at this
      show m (ren i b (rt x)) < m (ren i b i)
      rw [ren_at]; exact this
  · have hi' : un rt a b i = i := by rw [un_ren, ri, ren_ne e]
    have := hm i hi hi' x hx
    rw [un_ren] at this
    show m (ren a b (rt x)) < m (ren a b i)
    rw [ren_ne e]; exact this

/-- Two parts to be made one. -/
structure Stp where
  a : Nat
  b : Nat
  j : Bool
/-- A relation by which two are one if what was found says so, or a step that is to be made. -/
structure Gd (rt : Nat → Nat) (up : List Stp) (R : Nat → Nat → Prop) : Prop where
  sym : ∀ i j, R i j → R j i
  trans : ∀ i j k, R i j → R j k → R i k
  rt : ∀ i j, rt i = rt j → R i j
  up : ∀ s ∈ up, R s.a s.b
def StpOK (G : Gr) (rt : Nat → Nat) (up : List Stp) (s : Stp) : Prop := s.a < G.N ∧ s.b < G.N ∧ (s.j = true →
  ((G.tr s.a).isV = false ∧ (G.tr s.b).isV = false ∧ (G.tr s.a).kind = (G.tr s.b).kind ∧ (G.tr s.a).name = (G.tr s.b).name ∧ (G.ag s.a).length = (G.ag s.b).length) ∧
  ∀ R, Gd rt up R → ∀ k (h1 : k < (G.ag s.a).length) (h2 : k < (G.ag s.b).length), R (G.ag s.a)[k] (G.ag s.b)[k])
/-- Steps, the next one first. -/
def StkOK (G : Gr) (rt : Nat → Nat) : List Stp → List Stp → Prop
  | _, [] => True
  | up, s :: ws => StpOK G rt up s ∧ StkOK G rt (s :: up) ws
theorem StkOK.mono {G : Gr} {rt rt' : Nat → Nat} : ∀ {ws : List Stp} {up up' : List Stp}, (∀ R, Gd rt' up' R → Gd rt up R) → StkOK G rt up ws → StkOK G rt' up' ws
  | [], _, _, _, _ => trivial
  | s :: ws, up, up', H, h => ⟨⟨h.1.1, h.1.2.1, fun hj => ⟨(h.1.2.2 hj).1, fun R hR => (h.1.2.2 hj).2 R (H R hR)⟩⟩,
      StkOK.mono (fun R hR => by
        have h1 := H R ⟨hR.sym, hR.trans, hR.rt, fun t ht => hR.up t (List.mem_cons_of_mem _ ht)⟩
        exact ⟨h1.sym, h1.trans, h1.rt, fun t ht => by
          rcases List.mem_cons.1 ht with rfl | ht
          · exact hR.up _ (List.mem_cons_self ..)
          · exact h1.up t ht⟩) h.2⟩
def pairsU : List Nat → List Nat → List Stp
  | x :: l, y :: m => ⟨x, y, false⟩ :: pairsU l m
  | _, _ => []
theorem pairsU_len : ∀ {l m : List Nat}, l.length = m.length → (pairsU l m).length = l.length
  | [], [], _ => rfl
  | x :: l, y :: m, h => by rw [pairsU, List.length_cons, pairsU_len (by simpa using h), List.length_cons]
theorem pairsU_get : ∀ {l m : List Nat} {k : Nat} (h1 : k < l.length) (h2 : k < m.length), (⟨l[k], m[k], false⟩ : Stp) ∈ pairsU l m
  | x :: l, y :: m, 0, _, _ => by simp [pairsU]
  | x :: l, y :: m, k + 1, h1, h2 => by
    rw [pairsU]
    exact List.mem_cons_of_mem _ (pairsU_get (l := l) (m := m) (k := k) (by simpa using h1) (by simpa using h2))
theorem StkOK.pairs {G : Gr} {rt : Nat → Nat} {ws : List Stp} : ∀ {l m : List Nat} {up : List Stp}, (∀ x ∈ l, x < G.N) → (∀ y ∈ m, y < G.N) → StkOK G rt ((pairsU l m).reverse ++ up) ws → StkOK G rt up (pairsU l m ++ ws)
  | [], m, up, _, _, h => by simpa [pairsU] using h
  | x :: l, [], up, _, _, h => by simpa [pairsU] using h
  | x :: l, y :: m, up, hx, hy, h => by
    rw [pairsU] at h ⊢
    refine ⟨⟨hx x (by simp), hy y (by simp), fun hj => by cases hj⟩, ?_⟩
    refine StkOK.pairs (fun z hz => hx z (List.mem_cons_of_mem _ hz)) (fun z hz => hy z (List.mem_cons_of_mem _ hz)) ?_
    simpa using h
theorem StkOK.tail {G : Gr} {rt rt' : Nat → Nat} {s : Stp} {ws up : List Stp} (h : StkOK G rt [] (s :: ws)) (H : ∀ R, Gd rt' up R → (∀ i j, rt i = rt j → R i j) ∧ R s.a s.b) : StkOK G rt' up ws :=
  h.2.mono fun R hR => ⟨hR.sym, hR.trans, (H R hR).1, fun t ht => by simp at ht; subst ht; exact (H R hR).2⟩

open Classical in
/-- Whether two parts that are no variables are one when their arguments are. -/
noncomputable def likeB (G : Gr) (a b : Nat) : Bool := decide ((G.tr a).kind = (G.tr b).kind ∧ (G.tr a).name = (G.tr b).name ∧ (G.ag a).length = (G.ag b).length)
/-- One step: what is one behind it, and what is to be done still; none: it can't go on. -/
noncomputable def stepG (G : Gr) (rt : Nat → Nat) (s : Stp) (ws : List Stp) : Option ((Nat → Nat) × List Stp) :=
  if rt s.a = rt s.b then some (rt, ws)
  else if s.j = true ∨ (G.tr (rt s.a)).isV = true then some (un rt (rt s.a) (rt s.b), ws)
  else if (G.tr (rt s.b)).isV = true then some (un rt (rt s.b) (rt s.a), ws)
  else if likeB G (rt s.a) (rt s.b) = true then some (rt, pairsU (G.ag (rt s.a)) (G.ag (rt s.b)) ++ ⟨rt s.a, rt s.b, true⟩ :: ws)
  else none
theorem joined_like {G : Gr} {rt : Nat → Nat} {s : Stp} (h : GI G rt) (hs : StpOK G rt [] s) (hj : s.j = true) : Like G rt (rt s.a) (rt s.b) := by
  obtain ⟨la, lb, hs⟩ := hs
  obtain ⟨⟨v1, v2, k1, n1, l1⟩, hR⟩ := hs hj
  have ha := h.con s.a (rt s.a) la (h.lt _ la) (h.fix _ la).symm v1 (h.nv _ la v1)
  have hb := h.con s.b (rt s.b) lb (h.lt _ lb) (h.fix _ lb).symm v2 (h.nv _ lb v2)
  have he : (G.ag s.a).map rt = (G.ag s.b).map rt := by
    refine List.ext_getElem (by simp [l1]) fun k h1 h2 => ?_
    rw [List.getElem_map, List.getElem_map]
    exact hR (fun i j => rt i = rt j) ⟨fun i j e => e.symm, fun i j k e e' => e.trans e', fun i j e => e, fun t ht => nomatch ht⟩ k (by simpa using h1) (by simpa using h2)
  exact ⟨h.nv _ la v1, h.nv _ lb v2, ha.1.symm.trans (k1.trans hb.1), ha.2.1.symm.trans (n1.trans hb.2.1), ha.2.2.symm.trans (he.trans hb.2.2)⟩
theorem nodup_len {l R : List Nat} (hn : l.Nodup) (hs : ∀ i ∈ l, i ∈ R) : l.length ≤ R.length := by
  induction l generalizing R with
  | nil => exact Nat.zero_le _
  | cons a l ih =>
    have hp := List.perm_cons_erase (hs a (by simp))
    have hn' := List.nodup_cons.1 hn
    have := ih (R := R.erase a) hn'.2 fun j hj => (List.mem_erase_of_ne (fun e => hn'.1 (by rw [← e]; exact hj))).2 (hs j (List.mem_cons_of_mem _ hj))
    rw [hp.length_eq, List.length_cons, List.length_cons]; omega

/-- The next step behind which arguments were to be made one. -/
def topJ (ws : List Stp) : Option Stp := ws.find? (fun s => s.j)
def Ch (G : Gr) (rt : Nat → Nat) : List Stp → Prop
  | [] => True
  | s :: ws => (∀ t, topJ ws = some t → (s.j = true → ∀ m, Meas G rt m → m (rt s.a) < m (rt t.a)) ∧ (s.j = false → s.a ∈ G.ag t.a)) ∧ Ch G rt ws
def numJ (ws : List Stp) : Nat := (ws.filter fun s => s.j).length
/-- How many steps there can be. -/
def Lb (E : Nat) : List Stp → Prop
  | [] => True
  | s :: ws => (s :: ws).length ≤ 1 + numJ (s :: ws) * (E + 1) ∧ Lb E ws
theorem Ch.mono {G : Gr} {rt rt' : Nat → Nat} {f : Nat → Nat} (hf : ∀ i, rt' i = f (rt i)) (hm : ∀ m, Meas G rt' m → Meas G rt (fun r => m (f r))) : ∀ {ws : List Stp}, Ch G rt ws → Ch G rt' ws
  | [], _ => trivial
  | s :: ws, h => ⟨fun t ht => ⟨fun hj m hM => by rw [hf, hf]; exact (h.1 t ht).1 hj _ (hm m hM), (h.1 t ht).2⟩, Ch.mono hf hm h.2⟩
theorem topJ_pairs (l m : List Nat) (s : Stp) (hs : s.j = true) (ws : List Stp) : topJ (pairsU l m ++ s :: ws) = some s := by
  induction l generalizing m with
  | nil => simp [pairsU, topJ, hs]
  | cons x l ih =>
    cases m with
    | nil => simp [pairsU, topJ, hs]
    | cons y m =>
      have := ih m
      unfold topJ at this ⊢
      rw [pairsU, List.cons_append, List.find?_cons]
      exact this
theorem Ch.pairs {G : Gr} {rt : Nat → Nat} {s : Stp} {ws : List Stp} (hs : s.j = true) (h : Ch G rt (s :: ws)) : ∀ {l m : List Nat}, (∀ x ∈ l, x ∈ G.ag s.a) → Ch G rt (pairsU l m ++ s :: ws)
  | [], m, _ => by simpa [pairsU] using h
  | x :: l, [], _ => by simpa [pairsU] using h
  | x :: l, y :: m, hx => by
    rw [pairsU]
    refine ⟨fun t ht => ?_, Ch.pairs hs h fun z hz => hx z (List.mem_cons_of_mem _ hz)⟩
    have : topJ (pairsU l m ++ s :: ws) = some t := ht
    rw [topJ_pairs l m s hs ws] at this
    cases this
    exact ⟨fun h => (nomatch h), fun _ => hx x (by simp)⟩
theorem numJ_pairs (ws : List Stp) : ∀ l m : List Nat, numJ (pairsU l m ++ ws) = numJ ws
  | [], _ => by simp [pairsU]
  | _ :: _, [] => by simp [pairsU]
  | x :: l, y :: m => by
    have := numJ_pairs ws l m
    unfold numJ at this ⊢
    rw [pairsU, List.cons_append, List.filter_cons]
    exact this
theorem numJ_cons (s : Stp) (ws : List Stp) (hs : s.j = true) : numJ (s :: ws) = numJ ws + 1 := by simp [numJ, hs]
theorem numJ_le (s : Stp) (ws : List Stp) : numJ ws ≤ numJ (s :: ws) := by
  unfold numJ; rw [List.filter_cons]; split <;> simp
theorem Lb.len {E : Nat} {ws : List Stp} (h : Lb E ws) : ws.length ≤ 1 + numJ ws * (E + 1) := by
  cases ws with
  | nil => simp
  | cons s ws => exact h.1
theorem Lb.pairs {E : Nat} {s : Stp} {ws : List Stp} (hs : s.j = true) (h : Lb E ws) : ∀ {l m : List Nat}, l.length ≤ E → Lb E (pairsU l m ++ s :: ws) := by
  have hl := h.len
  have hJ := numJ_cons s ws hs
  have h0 : Lb E (s :: ws) := ⟨by rw [hJ, List.length_cons, Nat.add_mul]; omega, h⟩
  intro l
  induction l with
  | nil => intro m _; simpa [pairsU] using h0
  | cons x l ih =>
    intro m hE
    cases m with
    | nil => simpa [pairsU] using h0
    | cons y m =>
      rw [pairsU]
      refine ⟨?_, ih (m := m) (by simp at hE; omega)⟩
      have e : numJ (⟨x, y, false⟩ :: (pairsU l m ++ s :: ws)) = numJ (s :: ws) := by
        have := numJ_pairs (s :: ws) (x :: l) (y :: m)
        rw [pairsU] at this; exact this
      have hlen : (pairsU l m).length ≤ l.length := by
        clear ih hE e
        induction l generalizing m with
        | nil => simp [pairsU]
        | cons a l ih2 =>
          cases m with
          | nil => simp [pairsU]
          | cons b m => have := ih2 m; simp [pairsU]; omega
      show (⟨x, y, false⟩ :: (pairsU l m ++ s :: ws) : List Stp).length ≤ 1 + numJ (⟨x, y, false⟩ :: (pairsU l m ++ s :: ws)) * (E + 1)
      rw [e, hJ, List.length_cons, List.length_append, List.length_cons, Nat.add_mul]
      simp at hE; omega
theorem StkOK.mem {G : Gr} {rt : Nat → Nat} : ∀ {ws up : List Stp}, StkOK G rt up ws → ∀ t ∈ ws, t.a < G.N ∧ (t.j = true → (G.tr t.a).isV = false)
  | [], _, _, t, ht => by cases ht
  | s :: ws, up, h, t, ht => by
    rcases List.mem_cons.1 ht with rfl | ht
    · exact ⟨h.1.1, fun hj => (h.1.2.2 hj).1.1⟩
    · exact StkOK.mem h.2 t ht
/-- Steps: each is right, each is below the one behind it, and they are few. -/
def SK (G : Gr) (E : Nat) (rt : Nat → Nat) (ws : List Stp) : Prop := StkOK G rt [] ws ∧ Ch G rt ws ∧ Lb E ws
theorem chJ {G : Gr} {rt m : Nat → Nat} (hm : Meas G rt m) : ∀ {ws : List Stp}, Ch G rt ws → ((ws.filter fun s => s.j).map fun t => m (rt t.a)).Pairwise (· < ·)
  | [], _ => by simp
  | s :: ws, h => by
    have ih := chJ hm h.2
    rw [List.filter_cons]
    split
    next hj =>
      rw [List.map_cons, List.pairwise_cons]
      refine ⟨fun x hx => ?_, ih⟩
      cases ht : topJ ws with
      | none =>
        unfold topJ at ht
        rw [List.find?_eq_none] at ht
        obtain ⟨t, ht2, _⟩ := List.mem_map.1 hx
        exact absurd (List.mem_filter.1 ht2).2 (ht t (List.mem_filter.1 ht2).1)
      | some t =>
        have h1 := (h.1 t ht).1 hj m hm
        have hd : (ws.filter fun s => s.j).head? = some t := by rw [List.head?_filter]; exact ht
        cases hl : ws.filter fun s => s.j with
        | nil => rw [hl] at hd; cases hd
        | cons t' l =>
          rw [hl] at hd hx ih
          injection hd with hd
          subst hd
          rw [List.map_cons] at hx ih
          rcases List.mem_cons.1 hx with rfl | hx
          · exact h1
          · exact Nat.lt_trans h1 ((List.pairwise_cons.1 ih).1 x hx)
    next => exact ih
theorem SK.few {G : Gr} {E : Nat} {rt : Nat → Nat} {ws : List Stp} (g : GI G rt) (h : SK G E rt ws) (hA : Acyc G rt) : numJ ws ≤ G.N := by
  obtain ⟨m, hm⟩ := hA
  have hp := chJ hm h.2.1
  have hn : ((ws.filter fun s => s.j).map fun t => rt t.a).Nodup := by
    refine List.pairwise_map.2 ((List.pairwise_map.1 hp).imp ?_)
    intro a b hab e
    rw [e] at hab; exact Nat.lt_irrefl _ hab
  have := nodup_len (R := List.range G.N) hn fun x hx => by
    obtain ⟨t, ht, rfl⟩ := List.mem_map.1 hx
    exact List.mem_range.2 (g.lt _ (h.1.mem t (List.mem_filter.1 ht).1).1)
  simpa [numJ] using this
theorem step_inv {G : Gr} {E : Nat} {rt rt' : Nat → Nat} {s : Stp} {ws ws' : List Stp} (hE : ∀ i, i < G.N → (G.ag i).length ≤ E) (h : GI G rt) (hk : SK G E rt (s :: ws)) (e : stepG G rt s ws = some (rt', ws')) : (GI G rt' ∧ SK G E rt' ws') ∧ (Acyc G rt' → Acyc G rt) ∧ numJ ws' ≤ numJ (s :: ws) + 1 := by
  obtain ⟨hs, hC, hL⟩ := hk
  obtain ⟨la, lb, _⟩ := hs.1
  have ra := h.fix _ la
  have rb := h.fix _ lb
  have hJ := numJ_le s ws
  unfold stepG at e
  split at e
  next he =>
    simp only [Option.some.injEq, Prod.mk.injEq] at e
    obtain ⟨rfl, rfl⟩ := e
    exact ⟨⟨h, hs.tail fun R hR => ⟨hR.rt, hR.rt _ _ he⟩, hC.2, hL.2⟩, id, by omega⟩
  next he =>
    split at e
    next hc =>
      simp only [Option.some.injEq, Prod.mk.injEq] at e
      obtain ⟨rfl, rfl⟩ := e
      have hl : (G.tr (rt s.a)).isV = true ∨ Like G rt (rt s.a) (rt s.b) := by
        rcases hc with hc | hc
        · exact .inr (joined_like h hs.1 hc)
        · exact .inl hc
      have hb := fun m => Meas.back (m := m) h (h.lt _ la) (h.lt _ lb) rb he hl
      refine ⟨⟨h.un (h.lt _ la) (h.lt _ lb) ra rb he hl, hs.tail fun R hR => ⟨fun i j e => hR.rt _ _ (un_same _ _ e), hR.rt _ _ ?_⟩, hC.2.mono (un_ren rt _ _) hb, hL.2⟩, fun ⟨m, hm⟩ => ⟨_, hb m hm⟩, by omega⟩
      rw [un_ren, un_ren, ren_at, ren_ne (fun e => he e.symm)]
    next hc =>
      split at e
      next hv =>
        simp only [Option.some.injEq, Prod.mk.injEq] at e
        obtain ⟨rfl, rfl⟩ := e
        have he' : rt s.b ≠ rt s.a := fun e => he e.symm
        have hb := fun m => Meas.back (m := m) h (h.lt _ lb) (h.lt _ la) ra he' (.inl hv)
        refine ⟨⟨h.un (h.lt _ lb) (h.lt _ la) rb ra he' (.inl hv), hs.tail fun R hR => ⟨fun i j e => hR.rt _ _ (un_same _ _ e), hR.rt _ _ ?_⟩, hC.2.mono (un_ren rt _ _) hb, hL.2⟩, fun ⟨m, hm⟩ => ⟨_, hb m hm⟩, by omega⟩
        rw [un_ren, un_ren, ren_at, ren_ne he]
      next hv =>
        split at e
        next hk =>
          simp only [Option.some.injEq, Prod.mk.injEq] at e
          obtain ⟨rfl, rfl⟩ := e
          unfold likeB at hk
          obtain ⟨k1, k2, k3⟩ := of_decide_eq_true hk
          have va : (G.tr (rt s.a)).isV = false := by
            cases h : (G.tr (rt s.a)).isV with
            | false => rfl
            | true => exact (hc (.inr h)).elim
          have hsj : s.j = false := by
            cases h : s.j with
            | false => rfl
            | true => exact (hc (.inl h)).elim
          refine ⟨⟨h, StkOK.pairs (fun x hx => h.ok.arg (h.lt _ la) hx) (fun x hx => h.ok.arg (h.lt _ lb) hx) ⟨⟨h.lt _ la, h.lt _ lb, fun _ => ⟨⟨va, by simpa using hv, k1, k2, k3⟩, fun R hR k h1 h2 => ?_⟩⟩, ?_⟩, ?_, Lb.pairs rfl hL.2 (hE _ (h.lt _ la))⟩, id, ?_⟩
          · exact hR.up _ (by simpa using pairsU_get h1 h2)
          · exact hs.tail fun R hR => ⟨hR.rt, hR.trans _ _ _ (hR.rt _ _ ra.symm) (hR.trans _ _ _ (hR.up _ (List.mem_cons_self ..)) (hR.rt _ _ rb))⟩
          · refine Ch.pairs rfl ⟨fun t ht => ⟨fun _ m hm => ?_, fun h => (by cases h)⟩, hC.2⟩ fun x hx => hx
            have hmem := (hC.1 t ht).2 hsj
            have htm : t ∈ ws := List.mem_of_find?_eq_some ht
            have htj : t.j = true := List.find?_some (p := fun s : Stp => s.j) ht
            obtain ⟨lt, nvt⟩ := hs.2.mem t htm
            have hcon := (h.con t.a (rt t.a) lt (h.lt _ lt) (h.fix _ lt).symm (nvt htj) (h.nv _ lt (nvt htj))).2.2
            have : rt s.a ∈ (G.ag (rt t.a)).map rt := by rw [← hcon]; exact List.mem_map.2 ⟨_, hmem, rfl⟩
            obtain ⟨y, hy, ey⟩ := List.mem_map.1 this
            have := hm (rt t.a) (h.lt _ lt) (h.fix _ lt) y hy
            show m (rt (rt s.a)) < m (rt t.a)
            rw [ra, ← ey]; exact this
          · rw [numJ_pairs, numJ_cons _ _ rfl]; omega
        next hk => cases e
end Go.Proofs.YtdcfemojkdoakaaDoor
/- A graph of parts: what is found in it is what the chapter's way finds. -/
namespace Go.Proofs.YtdcfemojkdoakaaDoor

/-- What was found so far, as types for variables, is what the graph says. -/
structure SI (G : Gr) (σ : Sg) (rt : Nat → Nat) : Prop where
  idem : Idem σ
  eqv : ∀ i j, i < G.N → j < G.N → rt i = rt j → sub σ (G.tr i) = sub σ (G.tr j)
  free : ∀ i, i < G.N → rt i = i → (G.tr i).isV = true → sub σ (G.tr i) = G.tr i
  out : ∀ x, (∀ i, i < G.N → G.tr i ≠ .var x) → σ x = .var x
theorem SI.root {G : Gr} {σ : Sg} {rt : Nat → Nat} (h : SI G σ rt) (g : GI G rt) {i : Nat} (hi : i < G.N) : sub σ (G.tr i) = sub σ (G.tr (rt i)) := h.eqv _ _ hi (g.lt _ hi) (g.fix _ hi).symm
theorem SI.acyc {G : Gr} {σ : Sg} {rt : Nat → Nat} (h : SI G σ rt) (g : GI G rt) : Acyc G rt := by
  refine ⟨fun i => tsize (sub σ (G.tr i)), fun i hi ri x hx => ?_⟩
  have hx' := g.ok.arg hi hx
  show tsize (sub σ (G.tr (rt x))) < tsize (sub σ (G.tr i))
  rw [← h.root g hx']
  have hv : (G.tr i).isV = false := by
    cases hv : (G.tr i).isV with
    | false => rfl
    | true => rw [g.ok.var_no hi hv] at hx; cases hx
  refine tsize_kid ?_
  rw [(sub_parts σ _ hv).2.2.1, g.ok.kids i hi, List.map_map]
  exact List.mem_map.2 ⟨x, hx, rfl⟩
/-- A root that is a variable goes where another root goes. -/
theorem SI.bind {G : Gr} {σ τ : Sg} {rt : Nat → Nat} {a b : Nat} {x : ByteArray} (h : SI G σ rt) (g : GI G rt) (ha : a < G.N) (hb : b < G.N) (ra : rt a = a) (rb : rt b = b) (hne : a ≠ b) (ea : G.tr a = .var x) (hB : Binds σ x (sub σ (G.tr b)) τ) : SI G τ (un rt a b) := by
  have hsa : sub σ (G.tr a) = .var x := by rw [h.free a ha ra (by rw [ea]; rfl), ea]
  have hin : ∀ i, i < G.N → rt i = a → sub τ (G.tr i) = sub σ (G.tr b) := fun i hi e => by
    rw [hB.sub, h.eqv i a hi ha (e.trans ra.symm), hsa]; exact one_at _ _
  have hbb : ∀ i, i < G.N → rt i = b → sub τ (G.tr i) = sub σ (G.tr b) := fun i hi e => by
    rw [hB.sub, h.eqv i b hi hb (e.trans rb.symm)]; exact one_out hB.out
  refine ⟨hB.idem h.idem, fun i j hi hj e => ?_, fun i hi ri hv => ?_, fun y hy => ?_⟩
  · by_cases ei : rt i = a
    · by_cases ej : rt j = a
      · rw [hin i hi ei, hin j hj ej]
      · rw [un_ren, un_ren, ei, ren_at, ren_ne ej] at e
        rw [hin i hi ei, hbb j hj e.symm]
    · by_cases ej : rt j = a
      · rw [un_ren, un_ren, ej, ren_at, ren_ne ei] at e
        rw [hin j hj ej, hbb i hi e]
      · rw [un_ren, un_ren, ren_ne ei, ren_ne ej] at e
        rw [hB.sub, hB.sub, h.eqv i j hi hj e]
  · have hia : i ≠ a := by
      rintro rfl
      rw [un_ren, ra, ren_at] at ri
      exact hne ri.symm
    by_cases e : rt i = a
    · rw [un_ren, e, ren_at] at ri
      subst ri
      exact (hne (by rw [← e, rb])).elim
    · rw [un_ren, ren_ne e] at ri
      have h1 := h.free i hi ri hv
      rw [hB.sub, h1, isV_var hv]
      show one x _ (G.tr i).name = _
      refine one_ne _ fun e' => hia ?_
      refine g.ok.vars i a hi ha hv ?_
      rw [isV_var hv, ea, e']
  · have hyx : y ≠ x := fun e => hy a ha (by rw [ea, e])
    rw [hB.new]
    show sub (one x _) (σ y) = _
    rw [h.out y hy]
    exact one_ne _ hyx
/-- A variable that stands in what it gets: a part stands within itself. -/
theorem SI.occ {G : Gr} {σ : Sg} {rt : Nat → Nat} {a b : Nat} {x : ByteArray} (h : SI G σ rt) (g : GI G rt) (ha : a < G.N) (hb : b < G.N) (rb : rt b = b) (hne : a ≠ b) (ea : G.tr a = .var x) (hx : x ∈ vs (sub σ (G.tr b))) : ¬ Acyc G (un rt a b) := by
  rintro ⟨m, hm⟩
  have key : ∀ n i, i < G.N → tsize (sub σ (G.tr i)) ≤ n → x ∈ vs (sub σ (G.tr i)) → rt i = a ∨ m b < m (un rt a b i) := by
    intro n
    induction n with
    | zero => intro i _ h0 _; have := tsize_pos (sub σ (G.tr i)); omega
    | succ n ih =>
      intro i hi hn hxi
      have er := h.root g hi
      have lr := g.lt i hi
      cases hv : (G.tr (rt i)).isV with
      | true =>
        left
        rw [er, h.free _ lr (g.fix _ hi) hv, isV_var hv] at hxi
        simp [vs] at hxi
        refine g.ok.vars _ _ lr ha hv ?_
        rw [ea, hxi]; exact isV_var hv
      | false =>
        by_cases hia : rt i = a
        · exact .inl hia
        · right
          obtain ⟨_, _, s3, s4⟩ := sub_parts σ _ hv
          rw [er] at hxi hn
          obtain ⟨k, hk, hxk⟩ := (vs_kids s4).1 hxi
          have hsz := tsize_kid hk
          rw [s3, g.ok.kids _ lr, List.map_map] at hk
          obtain ⟨y, hy, rfl⟩ := List.mem_map.1 hk
          have hroot : un rt a b (rt i) = rt i := by rw [un_ren, g.fix _ hi, ren_ne hia]
          have hlt := hm _ lr hroot y hy
          have hui : un rt a b i = rt i := by rw [un_ren, ren_ne hia]
          rw [hui]
          rcases ih y (g.ok.arg lr hy) (by have : tsize (sub σ (G.tr y)) < _ := hsz; omega) hxk with e | e
          · rw [un_ren, e, ren_at] at hlt; exact hlt
          · exact Nat.lt_trans e hlt
  rcases key _ b hb (Nat.le_refl _) hx with e | e
  · exact hne (by rw [← e, rb])
  · rw [un_ren, rb, ren_ne (fun e => hne e.symm)] at e
    exact Nat.lt_irrefl _ e
/-- Two parts whose arguments are one are one. -/
theorem SI.join {G : Gr} {σ : Sg} {rt : Nat → Nat} {a b : Nat} (h : SI G σ rt) (g : GI G rt) (ha : a < G.N) (hb : b < G.N) (ra : rt a = a) (rb : rt b = b) (hl : Like G rt a b) : SI G σ (un rt a b) := by
  obtain ⟨v1, v2, k1, n1, m1⟩ := hl
  have e0 : sub σ (G.tr a) = sub σ (G.tr b) := by
    refine kids_same v1 v2 k1 n1 ?_
    rw [g.ok.kids a ha, g.ok.kids b hb, List.map_map, List.map_map]
    have hlen : (G.ag a).length = (G.ag b).length := by have := congrArg List.length m1; simpa using this
    refine List.ext_getElem (by simpa using hlen) fun k h1 h2 => ?_
    rw [List.getElem_map, List.getElem_map]
    have h1' : k < (G.ag a).length := by simpa using h1
    have h2' : k < (G.ag b).length := by simpa using h2
    refine h.eqv _ _ (g.ok.arg ha (List.getElem_mem h1')) (g.ok.arg hb (List.getElem_mem h2')) ?_
    have : ((G.ag a).map rt)[k]'(by simpa using h1') = ((G.ag b).map rt)[k]'(by simpa using h2') := by simp only [m1]
    simpa using this
  refine ⟨h.idem, fun i j hi hj e => ?_, fun i hi ri hv => ?_, h.out⟩
  · have hin : ∀ i, i < G.N → rt i = a → sub σ (G.tr i) = sub σ (G.tr b) := fun i hi e => by rw [h.eqv i a hi ha (e.trans ra.symm), e0]
    have hbb : ∀ i, i < G.N → rt i = b → sub σ (G.tr i) = sub σ (G.tr b) := fun i hi e => h.eqv i b hi hb (e.trans rb.symm)
    by_cases ei : rt i = a
    · by_cases ej : rt j = a
      · rw [hin i hi ei, hin j hj ej]
      · rw [un_ren, un_ren, ei, ren_at, ren_ne ej] at e
        rw [hin i hi ei, hbb j hj e.symm]
    · by_cases ej : rt j = a
      · rw [un_ren, un_ren, ej, ren_at, ren_ne ei] at e
        rw [hin j hj ej, hbb i hi e]
      · rw [un_ren, un_ren, ren_ne ei, ren_ne ej] at e
        exact h.eqv i j hi hj e
  · by_cases e : rt i = a
    · rw [un_ren, e, ren_at] at ri
      subst ri
      rw [v2] at hv; cases hv
    · rw [un_ren, ren_ne e] at ri
      exact h.free i hi ri hv

/-- As many steps as there can be at once. K: how many steps there are from one look to the next. -/
def capM (G : Gr) (E K : Nat) : Nat := 1 + (G.N + K + 2) * (E + 1)
/-- How join ends, in so many rounds: what it answers, and what is one then. -/
inductive EndsIn (G : Gr) (E K : Nat) : Nat → (Nat → Nat) → List Stp → Nat → Bool → (Nat → Nat) → Prop
  | empty (rt : Nat → Nat) (c : Nat) : EndsIn G E K 0 rt [] c true rt
  | stop (rt : Nat → Nat) (s : Stp) (ws : List Stp) (c : Nat) : stepG G rt s ws = none → EndsIn G E K 1 rt (s :: ws) c false rt
  | round (rt rt' : Nat → Nat) (s : Stp) (ws ws' : List Stp) (c : Nat) : stepG G rt s ws = some (rt', ws') → ws'.length ≤ capM G E K → K < c + 1 → ¬ Acyc G rt' → EndsIn G E K 1 rt (s :: ws) c false rt'
  | go (n : Nat) (rt rt' rf : Nat → Nat) (s : Stp) (ws ws' : List Stp) (c : Nat) (fl : Bool) : stepG G rt s ws = some (rt', ws') → ws'.length ≤ capM G E K → (c + 1 ≤ K ∨ Acyc G rt') → EndsIn G E K n rt' ws' (if c + 1 ≤ K then c + 1 else 0) fl rf → EndsIn G E K (n + 1) rt (s :: ws) c fl rf
def Ends (G : Gr) (E K : Nat) (rt : Nat → Nat) (ws : List Stp) (c : Nat) (Q : Bool → (Nat → Nat) → Prop) : Prop := ∃ n fl rf, EndsIn G E K n rt ws c fl rf ∧ GI G rf ∧ Q fl rf
theorem cap_of {G : Gr} {E K : Nat} {rt : Nat → Nat} {ws : List Stp} (h : SK G E rt ws) (hn : numJ ws ≤ G.N + K + 2) : ws.length ≤ capM G E K := by
  have h1 := h.2.2.len
  have h2 := Nat.mul_le_mul_right (E + 1) hn
  unfold capM; omega
theorem Ends.next {G : Gr} {E K : Nat} {rt rt' : Nat → Nat} {s : Stp} {ws ws' : List Stp} {c : Nat} {Q : Bool → (Nat → Nat) → Prop} (e : stepG G rt s ws = some (rt', ws')) (g : GI G rt') (hs : SK G E rt' ws') (k : Acyc G rt') (h : ∀ c', Ends G E K rt' ws' c' Q) : Ends G E K rt (s :: ws) c Q := by
  obtain ⟨n, fl, rf, h1, h2⟩ := h (if c + 1 ≤ K then c + 1 else 0)
  exact ⟨n + 1, fl, rf, .go n rt rt' rf s ws ws' c fl e (cap_of hs (by have := hs.few g k; omega)) (.inr k) h1, h2⟩
/-- Once a part stands within itself join comes to its end, and it still does. -/
theorem cyc_ends {G : Gr} {E K : Nat} (hE : ∀ i, i < G.N → (G.ag i).length ≤ E) : ∀ (n : Nat) (rt : Nat → Nat) (ws : List Stp) (c : Nat), K + 1 - c ≤ n → numJ ws + n + 1 ≤ G.N + K + 2 → GI G rt → SK G E rt ws → ¬ Acyc G rt → Ends G E K rt ws c fun _ rf => ¬ Acyc G rf := by
  intro n
  induction n with
  | zero =>
    intro rt ws c hn hJ g hs hA
    cases ws with
    | nil => exact ⟨_, _, _, .empty rt c, g, hA⟩
    | cons s ws =>
      cases e : stepG G rt s ws with
      | none => exact ⟨_, _, _, .stop rt s ws c e, g, hA⟩
      | some q =>
        obtain ⟨rt', ws'⟩ := q
        obtain ⟨⟨g', hs'⟩, hb, hn'⟩ := step_inv hE g hs e
        exact ⟨_, _, _, .round rt rt' s ws ws' c e (cap_of hs' (by omega)) (by omega) (fun h => hA (hb h)), g', fun h => hA (hb h)⟩
  | succ n ih =>
    intro rt ws c hn hJ g hs hA
    cases ws with
    | nil => exact ⟨_, _, _, .empty rt c, g, hA⟩
    | cons s ws =>
      cases e : stepG G rt s ws with
      | none => exact ⟨_, _, _, .stop rt s ws c e, g, hA⟩
      | some q =>
        obtain ⟨rt', ws'⟩ := q
        obtain ⟨⟨g', hs'⟩, hb, hn'⟩ := step_inv hE g hs e
        have hM := cap_of (K := K) hs' (by omega)
        by_cases hc : c + 1 ≤ K
        · obtain ⟨m, fl, rf, h1, h2⟩ := ih rt' ws' (c + 1) (by omega) (by omega) g' hs' (fun h => hA (hb h))
          exact ⟨m + 1, fl, rf, .go m rt rt' rf s ws ws' c fl e hM (.inl hc) (by rw [if_pos hc]; exact h1), h2⟩
        · exact ⟨_, _, _, .round rt rt' s ws ws' c e hM (by omega) (fun h => hA (hb h)), g', fun h => hA (hb h)⟩
theorem cyc_next {G : Gr} {E K : Nat} (hE : ∀ i, i < G.N → (G.ag i).length ≤ E) {rt rt' : Nat → Nat} {s : Stp} {ws ws' : List Stp} {c : Nat} (e : stepG G rt s ws = some (rt', ws')) (g : GI G rt') (hs : SK G E rt' ws') (hA : ¬ Acyc G rt') (hJ : numJ ws' ≤ G.N) : Ends G E K rt (s :: ws) c fun _ rf => ¬ Acyc G rf := by
  have hM := cap_of (K := K) hs (by omega)
  by_cases hc : c + 1 ≤ K
  · obtain ⟨m, fl, rf, h1, h2⟩ := cyc_ends hE (K + 1 - (c + 1)) rt' ws' (c + 1) (Nat.le_refl _) (by omega) g hs hA
    exact ⟨m + 1, fl, rf, .go m rt rt' rf s ws ws' c fl e hM (.inl hc) (by rw [if_pos hc]; exact h1), h2⟩
  · exact ⟨_, _, _, .round rt rt' s ws ws' c e hM (by omega) hA, g, hA⟩

/-- Two that are the same already: nothing is found. -/
theorem uniL_eq {u : Sg → T → T → Option UR} (H : ∀ σ a b r, u σ a b = some r → Idem σ → sub σ a = sub σ b → r = .ok σ) (σ : Sg) (hi : Idem σ) : ∀ (l m : List T) (r : UR), uniL u σ l m = some r → l.map (sub σ) = m.map (sub σ) → r = .ok σ
  | [], _, r, h, _ => by simp [uniL] at h; exact h.symm
  | _ :: _, [], r, h, _ => by simp [uniL] at h; exact h.symm
  | a :: l, b :: m, r, h, e => by
    rw [List.map_cons, List.map_cons] at e
    injection e with e1 e2
    rw [uniL] at h
    cases hu : u σ a b with
    | none => rw [hu] at h; cases h
    | some q =>
      have := H σ a b q hu hi e1
      subst this
      rw [hu] at h
      exact uniL_eq H σ hi l m r h e2
theorem uni_eq : ∀ (f : Nat) (σ : Sg) (a b : T) (r : UR), uni f σ a b = some r → Idem σ → sub σ a = sub σ b → r = .ok σ
  | 0, _, _, _, _, h, _, _ => by cases h
  | f + 1, σ, a, b, r, h, hi, e => by
    rw [uni] at h
    have hs := stepU_is (uni f) σ a b hi
    rw [h] at hs
    generalize hr : some r = q at hs
    cases hs with
    | same x e1 e2 => injection hr
    | left x τ e1 hb =>
      have := hb.out
      rw [← e, e1] at this
      exact (this (by simp [vs])).elim
    | leftIn x e1 ho hv => rw [← e, e1] at hv; cases hv
    | right x τ hv e2 hb => rw [e, e2] at hv; cases hv
    | rightIn x hv e2 => rw [e, e2] at hv; cases hv
    | parts h1 h2 h3 h4 h5 => exact uniL_eq (uni_eq f) σ hi _ _ r hr.symm (by rw [e])
    | bad h1 h2 hn => exact (hn ⟨by rw [e], by rw [e], by rw [e]⟩).elim
/-- Only what was found so far in the two counts. -/
theorem uni_on {f : Nat} {σ : Sg} {a b a' b' : T} (ea : sub σ a = sub σ a') (eb : sub σ b = sub σ b') : uni f σ a b = uni f σ a' b' := by
  cases f with
  | zero => rfl
  | succ f => rw [uni, uni, ea, eb]
/-- What is said of an end. -/
def BadQ (G : Gr) (e : Bool) (fl : Bool) (rf : Nat → Nat) : Prop := if e then ¬ Acyc G rf else fl = false ∧ Acyc G rf
def Sim (G : Gr) (E K : Nat) (u : Sg → T → T → Option UR) : Prop := ∀ (σ : Sg) (rt : Nat → Nat) (c i j : Nat) (ws : List Stp) (r : UR), GI G rt → SK G E rt (⟨i, j, false⟩ :: ws) → SI G σ rt → u σ (G.tr i) (G.tr j) = some r →
  (∀ e, r = .bad e → Ends G E K rt (⟨i, j, false⟩ :: ws) c (BadQ G e)) ∧
  (∀ τ, r = .ok τ → ∀ Q, (∀ rt' c', GI G rt' → SK G E rt' ws → SI G τ rt' → Ends G E K rt' ws c' Q) → Ends G E K rt (⟨i, j, false⟩ :: ws) c Q)
theorem sim_list {G : Gr} {E K f : Nat} (H : Sim G E K (uni f)) (σ0 : Sg) (i0 : Idem σ0) : ∀ (l m : List Nat) (σ : Sg) (rt : Nat → Nat) (c : Nat) (ws : List Stp) (r : UR), l.length = m.length → ExtU σ0 σ → GI G rt → SK G E rt (pairsU l m ++ ws) → SI G σ rt →
    uniL (uni f) σ (l.map fun x => sub σ0 (G.tr x)) (m.map fun x => sub σ0 (G.tr x)) = some r →
    (∀ e, r = .bad e → Ends G E K rt (pairsU l m ++ ws) c (BadQ G e)) ∧
    (∀ τ, r = .ok τ → ∀ Q, (∀ rt' c', GI G rt' → SK G E rt' ws → SI G τ rt' → Ends G E K rt' ws c' Q) → Ends G E K rt (pairsU l m ++ ws) c Q)
  | [], [], σ, rt, c, ws, r, _, _, g, hs, h, e => by
    simp [uniL] at e
    subst e
    exact ⟨fun _ e => (nomatch e), fun τ e Q k => by injection e with e; subst e; exact k rt c g hs h⟩
  | [], _ :: _, _, _, _, _, _, hl, _, _, _, _, _ => by simp at hl
  | _ :: _, [], _, _, _, _, _, hl, _, _, _, _, _ => by simp at hl
  | x :: l, y :: m, σ, rt, c, ws, r, hl, hE, g, hs, h, e => by
    rw [List.map_cons, List.map_cons, uniL, uni_on (hE.sub i0 _) (hE.sub i0 _)] at e
    cases hu : uni f σ (G.tr x) (G.tr y) with
    | none => rw [hu] at e; cases e
    | some q =>
      rw [hu] at e
      have hh := H σ rt c x y (pairsU l m ++ ws) q g hs h hu
      cases q with
      | bad e' =>
        simp only [Option.some.injEq] at e
        subst e
        exact ⟨fun e h => by injection h with h; subst h; exact hh.1 _ rfl, fun _ e => by cases e⟩
      | ok ρ =>
        have hρ := uni_sound f σ _ _ ρ hu h.idem
        have hrec := fun rt' c' g' hs' h' => sim_list H σ0 i0 l m ρ rt' c' ws r (by simpa using hl) (hE.trans hρ.2.1) g' hs' h' e
        exact ⟨fun e' he => hh.2 ρ rfl _ fun rt' c' g' hs' h' => (hrec rt' c' g' hs' h').1 e' he,
          fun τ hτ Q k => hh.2 ρ rfl _ fun rt' c' g' hs' h' => (hrec rt' c' g' hs' h').2 τ hτ Q k⟩
theorem sim {G : Gr} {E K : Nat} (hE : ∀ i, i < G.N → (G.ag i).length ≤ E) : ∀ f, Sim G E K (uni f)
  | 0 => fun σ rt c i j ws r _ _ _ h => by cases h
  | f + 1 => fun σ rt c i j ws r g hs h hu => by
    obtain ⟨hi, hj, _⟩ := hs.1.1
    have hi : i < G.N := hi
    have hj : j < G.N := hj
    have ea := h.root g hi
    have eb := h.root g hj
    have la := g.lt i hi
    have lb := g.lt j hj
    have ra := g.fix i hi
    have rb := g.fix j hj
    have hJ : numJ ws ≤ G.N := Nat.le_trans (numJ_le _ _) (hs.few g (h.acyc g))
    by_cases he : rt i = rt j
    · have hr := uni_eq _ _ _ _ _ hu h.idem (by rw [ea, eb, he])
      subst hr
      have e : stepG G rt ⟨i, j, false⟩ ws = some (rt, ws) := by unfold stepG; rw [if_pos he]
      obtain ⟨⟨_, hs'⟩, _, _⟩ := step_inv hE g hs e
      exact ⟨fun _ e => (nomatch e), fun τ eq Q k => Ends.next e g hs' (h.acyc g) fun c' => by injection eq with eq; subst eq; exact k rt c' g hs' h⟩
    · rw [uni, ea, eb] at hu
      have hS := stepU_is (uni f) σ (G.tr (rt i)) (G.tr (rt j)) h.idem
      rw [hu] at hS
      generalize hr : some r = q at hS
      have hnv : ∀ k, k < G.N → (G.tr k).isV = false → (sub σ (G.tr k)).isV = false := fun k _ hv => (sub_parts σ _ hv).2.2.2
      have hvr : ∀ k, k < G.N → rt k = k → (G.tr k).isV = true → ∀ x, sub σ (G.tr k) = .var x → G.tr k = .var x := fun k hk rk hv x e => by rw [← h.free k hk rk hv, e]
      have hvt : ∀ k, k < G.N → rt k = k → (G.tr k).isV = true → (sub σ (G.tr k)).isV = true := fun k hk rk hv => by rw [h.free k hk rk hv]; exact hv
      by_cases va : (G.tr (rt i)).isV = true
      · have e : stepG G rt ⟨i, j, false⟩ ws = some (un rt (rt i) (rt j), ws) := by unfold stepG; rw [if_neg he, if_pos (Or.inr va)]
        obtain ⟨⟨g', hs'⟩, _, _⟩ := step_inv hE g hs e
        cases hS with
        | same x e1 e2 =>
          refine (he ?_).elim
          have ta := hvr _ la ra va x e1
          cases vb : (G.tr (rt j)).isV with
          | true => exact g.ok.vars _ _ la lb va (by rw [ta, hvr _ lb rb vb x e2])
          | false => have := hnv _ lb vb; rw [e2] at this; cases this
        | left x τ e1 hB =>
          have ta := hvr _ la ra va x e1
          injection hr with hr
          subst hr
          have h' := h.bind g la lb ra rb he ta hB
          exact ⟨fun _ e => (nomatch e), fun τ' eq Q k => Ends.next e g' hs' (h'.acyc g') fun c' => by injection eq with eq; subst eq; exact k _ c' g' hs' h'⟩
        | leftIn x e1 ho hv =>
          have ta := hvr _ la ra va x e1
          injection hr with hr
          subst hr
          refine ⟨fun e' eq => ?_, fun _ e => by cases e⟩
          injection eq with eq; subst eq
          exact cyc_next hE e g' hs' (h.occ g la lb rb he ta ho) hJ
        | right x τ hv => rw [hvt _ la ra va] at hv; cases hv
        | rightIn x hv => rw [hvt _ la ra va] at hv; cases hv
        | parts hv => rw [hvt _ la ra va] at hv; cases hv
        | bad hv => rw [hvt _ la ra va] at hv; cases hv
      · have va' : (G.tr (rt i)).isV = false := by simpa using va
        have sa := hnv _ la va'
        have hc : ¬ ((⟨i, j, false⟩ : Stp).j = true ∨ (G.tr (rt i)).isV = true) := fun h => h.elim (fun h => by cases h) va
        by_cases vb : (G.tr (rt j)).isV = true
        · have e : stepG G rt ⟨i, j, false⟩ ws = some (un rt (rt j) (rt i), ws) := by unfold stepG; rw [if_neg he, if_neg hc, if_pos vb]
          obtain ⟨⟨g', hs'⟩, _, _⟩ := step_inv hE g hs e
          have he' : rt j ≠ rt i := fun e => he e.symm
          cases hS with
          | same x e1 e2 => rw [e1] at sa; cases sa
          | left x τ e1 hB => rw [e1] at sa; cases sa
          | leftIn x e1 => rw [e1] at sa; cases sa
          | right x τ _ e2 hB =>
            have tb := hvr _ lb rb vb x e2
            injection hr with hr
            subst hr
            have h' := h.bind g lb la rb ra he' tb hB
            exact ⟨fun _ e => (nomatch e), fun τ' eq Q k => Ends.next e g' hs' (h'.acyc g') fun c' => by injection eq with eq; subst eq; exact k _ c' g' hs' h'⟩
          | rightIn x _ e2 ho =>
            have tb := hvr _ lb rb vb x e2
            injection hr with hr
            subst hr
            refine ⟨fun e' eq => ?_, fun _ e => by cases e⟩
            injection eq with eq; subst eq
            exact cyc_next hE e g' hs' (h.occ g lb la ra he' tb ho) hJ
          | parts _ hv => rw [hvt _ lb rb vb] at hv; cases hv
          | bad _ hv => rw [hvt _ lb rb vb] at hv; cases hv
        · have vb' : (G.tr (rt j)).isV = false := by simpa using vb
          have sb := hnv _ lb vb'
          obtain ⟨a1, a2, a3, _⟩ := sub_parts σ _ va'
          obtain ⟨b1, b2, b3, _⟩ := sub_parts σ _ vb'
          have hlk : likeB G (rt i) (rt j) = true ↔ ((sub σ (G.tr (rt i))).kind = (sub σ (G.tr (rt j))).kind ∧ (sub σ (G.tr (rt i))).name = (sub σ (G.tr (rt j))).name ∧ (sub σ (G.tr (rt i))).kids.length = (sub σ (G.tr (rt j))).kids.length) := by
            unfold likeB
            rw [decide_eq_true_iff, a1, a2, a3, b1, b2, b3, List.length_map, List.length_map, g.ok.len la, g.ok.len lb]
          cases hS with
          | same x e1 e2 => rw [e1] at sa; cases sa
          | left x τ e1 hB => rw [e1] at sa; cases sa
          | leftIn x e1 => rw [e1] at sa; cases sa
          | right x τ _ e2 => rw [e2] at sb; cases sb
          | rightIn x _ e2 => rw [e2] at sb; cases sb
          | parts _ _ p3 p4 p5 =>
            have hk := hlk.2 ⟨p3, p4, p5⟩
            have e : stepG G rt ⟨i, j, false⟩ ws = some (rt, pairsU (G.ag (rt i)) (G.ag (rt j)) ++ ⟨rt i, rt j, true⟩ :: ws) := by unfold stepG; rw [if_neg he, if_neg hc, if_neg vb, if_pos hk]
            obtain ⟨⟨_, hs'⟩, _, _⟩ := step_inv hE g hs e
            have hlen : (G.ag (rt i)).length = (G.ag (rt j)).length := by rw [← g.ok.len la, ← g.ok.len lb]; rw [a3, b3] at p5; simpa using p5
            rw [a3, b3, g.ok.kids _ la, g.ok.kids _ lb, List.map_map, List.map_map] at hr
            have hl := fun c' => sim_list (K := K) (sim hE f) σ h.idem (G.ag (rt i)) (G.ag (rt j)) σ rt c' (⟨rt i, rt j, true⟩ :: ws) r hlen (.refl σ) g hs' h hr.symm
            refine ⟨fun e' eq => Ends.next e g hs' (h.acyc g) fun c' => (hl c').1 e' eq, fun τ eq Q k => Ends.next e g hs' (h.acyc g) fun c' => (hl c').2 τ eq Q fun rt' c' g' hs'' h' => ?_⟩
            have hL := joined_like g' hs''.1.1 rfl
            by_cases hee : rt' (rt i) = rt' (rt j)
            · have e9 : stepG G rt' ⟨rt i, rt j, true⟩ ws = some (rt', ws) := by unfold stepG; rw [if_pos hee]
              obtain ⟨⟨_, hs9⟩, _, _⟩ := step_inv hE g' hs'' e9
              exact Ends.next e9 g' hs9 (h'.acyc g') fun c9 => k rt' c9 g' hs9 h'
            · have e9 : stepG G rt' ⟨rt i, rt j, true⟩ ws = some (un rt' (rt' (rt i)) (rt' (rt j)), ws) := by unfold stepG; rw [if_neg hee, if_pos (Or.inl rfl)]
              obtain ⟨⟨g9, hs9⟩, _, _⟩ := step_inv hE g' hs'' e9
              have h9 := h'.join g' (g'.lt _ la) (g'.lt _ lb) (g'.fix _ la) (g'.fix _ lb) hL
              exact Ends.next e9 g9 hs9 (h9.acyc g9) fun c9 => k _ c9 g9 hs9 h9
          | bad _ _ hn =>
            injection hr with hr
            subst hr
            have hk : ¬ likeB G (rt i) (rt j) = true := fun h => hn (hlk.1 h)
            have e : stepG G rt ⟨i, j, false⟩ ws = none := by unfold stepG; rw [if_neg he, if_neg hc, if_neg vb, if_neg hk]
            refine ⟨fun e' eq => ?_, fun _ e => by cases e⟩
            injection eq with eq; subst eq
            exact ⟨_, _, _, .stop rt _ ws c e, g, rfl, h.acyc g⟩
/-- What join comes to, of two parts. -/
def JQ (G : Gr) (r : UR) (fl : Bool) (rf : Nat → Nat) : Prop := match r with
  | .ok τ => fl = true ∧ SI G τ rf
  | .bad e => BadQ G e fl rf
theorem join_ends {G : Gr} {E K : Nat} (hE : ∀ i, i < G.N → (G.ag i).length ≤ E) {σ : Sg} {rt : Nat → Nat} {i j : Nat} {r : UR} (g : GI G rt) (hi : i < G.N) (hj : j < G.N) (h : SI G σ rt) (hu : Uni σ (G.tr i) (G.tr j) r) (c : Nat) : Ends G E K rt [⟨i, j, false⟩] c (JQ G r) := by
  obtain ⟨f, hu⟩ := hu
  have hs : SK G E rt [⟨i, j, false⟩] := ⟨⟨⟨hi, hj, fun h => by cases h⟩, trivial⟩, ⟨fun t ht => (by cases ht), trivial⟩, ⟨by simp, trivial⟩⟩
  have := sim (G := G) (E := E) (K := K) hE f σ rt c i j [] r g hs h hu
  cases r with
  | bad e => exact this.1 e rfl
  | ok τ => exact this.2 τ rfl _ fun rt' c' g' _ h' => ⟨0, true, rt', .empty rt' c', g', rfl, h'⟩
end Go.Proofs.YtdcfemojkdoakaaDoor
/- A graph of parts: an order in which each part is ahead of its arguments, found by counting. -/
namespace Go.Proofs.YtdcfemojkdoakaaDoor

/-- The roots. -/
def rootsU (rt : Nat → Nat) (n : Nat) : List Nat := (List.range n).filter fun i => decide (rt i = i)
theorem rootsU_nodup (rt : Nat → Nat) (n : Nat) : (rootsU rt n).Nodup := List.nodup_range.filter _
theorem mem_roots {rt : Nat → Nat} {n i : Nat} : i ∈ rootsU rt n ↔ i < n ∧ rt i = i := by simp [rootsU]
theorem roots_succ (rt : Nat → Nat) (n : Nat) : rootsU rt (n + 1) = rootsU rt n ++ if rt n = n then [n] else [] := by
  unfold rootsU
  rw [List.range_succ, List.filter_append]
  congr 1
  by_cases h : rt n = n <;> simp [h]
/-- How often part r is an argument of these. -/
def cntUA (ag : Nat → List Nat) (rt : Nat → Nat) (i r : Nat) : Nat := ((ag i).map rt).count r
def cntU (ag : Nat → List Nat) (rt : Nat → Nat) : List Nat → Nat → Nat
  | [], _ => 0
  | i :: D, r => cntUA ag rt i r + cntU ag rt D r
theorem cntU_append (ag : Nat → List Nat) (rt : Nat → Nat) (r : Nat) : ∀ D D' : List Nat, cntU ag rt (D ++ D') r = cntU ag rt D r + cntU ag rt D' r
  | [], D' => by simp [cntU]
  | i :: D, D' => by rw [List.cons_append, cntU, cntU, cntU_append ag rt r D D']; omega
theorem cntU_perm {ag : Nat → List Nat} {rt : Nat → Nat} {r : Nat} {D D' : List Nat} (h : D.Perm D') : cntU ag rt D r = cntU ag rt D' r := by
  induction h with
  | nil => rfl
  | cons a _ ih => rw [cntU, cntU, ih]
  | swap a b l => simp only [cntU]; omega
  | trans _ _ h1 h2 => rw [h1, h2]
theorem cntU_le {ag : Nat → List Nat} {rt : Nat → Nat} {r : Nat} : ∀ {D R : List Nat}, D.Nodup → (∀ i ∈ D, i ∈ R) → cntU ag rt D r ≤ cntU ag rt R r
  | [], _, _, _ => Nat.zero_le _
  | i :: D, R, hn, hs => by
    have hp := List.perm_cons_erase (hs i (by simp))
    rw [cntU_perm (ag := ag) (rt := rt) (r := r) hp, cntU, cntU]
    have hn' := List.nodup_cons.1 hn
    have := cntU_le (ag := ag) (rt := rt) (r := r) (R := R.erase i) hn'.2 fun j hj => (List.mem_erase_of_ne (fun e => hn'.1 (by rw [← e]; exact hj))).2 (hs j (List.mem_cons_of_mem _ hj))
    omega
theorem cntU_lt {ag : Nat → List Nat} {rt : Nat → Nat} {r i : Nat} {D R : List Nat} (hn : D.Nodup) (hs : ∀ i ∈ D, i ∈ R) (hi : i ∈ R) (hni : i ∉ D) : cntU ag rt D r + cntUA ag rt i r ≤ cntU ag rt R r := by
  have := cntU_le (ag := ag) (rt := rt) (r := r) (D := i :: D) (R := R) (List.nodup_cons.2 ⟨hni, hn⟩) fun j hj => by
    rcases List.mem_cons.1 hj with rfl | hj
    · exact hi
    · exact hs j hj
  rw [cntU] at this; omega
theorem cntU_all {ag : Nat → List Nat} {rt : Nat → Nat} {r : Nat} {D R : List Nat} (hn : D.Nodup) (hs : ∀ i ∈ D, i ∈ R) (e : cntU ag rt D r = cntU ag rt R r) {i : Nat} (hi : i ∈ R) (hr : r ∈ (ag i).map rt) : i ∈ D := by
  by_cases h : i ∈ D
  · exact h
  · have h1 := cntU_lt (ag := ag) (rt := rt) (r := r) hn hs hi h
    have h2 : 0 < cntUA ag rt i r := List.count_pos_iff.2 hr
    omega

/-- Each part behind all those that it is an argument of. -/
def Topo (ag : Nat → List Nat) (rt : Nat → Nat) (n : Nat) (l : List Nat) : Prop := ∀ q (hq : q < l.length), ∀ i, i ∈ rootsU rt n → l[q] ∈ (ag i).map rt → ∃ p, ∃ hp : p < l.length, p < q ∧ l[p] = i
/-- Where the order stands: the first m parts of l are done, and the first k arguments of the next one; W r: for how many places part r waits still. -/
structure Ord (ag : Nat → List Nat) (rt : Nat → Nat) (n : Nat) (l : List Nat) (m : Nat) (A : List Nat) (W : Nat → Nat) : Prop where
  nodup : l.Nodup
  sub : ∀ i ∈ l, i ∈ rootsU rt n
  waits : ∀ r, r ∈ rootsU rt n → W r + (cntU ag rt (l.take m) r + A.count r) = cntU ag rt (rootsU rt n) r
  done : ∀ r, r ∈ rootsU rt n → (r ∈ l ↔ W r = 0)
  topo : Topo ag rt n l
theorem Topo.snoc {ag : Nat → List Nat} {rt : Nat → Nat} {n : Nat} {l : List Nat} {r : Nat} (h : Topo ag rt n l) (k : ∀ i, i ∈ rootsU rt n → r ∈ (ag i).map rt → i ∈ l) : Topo ag rt n (l ++ [r]) := by
  intro q hq i hi hr
  by_cases hql : q < l.length
  · rw [List.getElem_append_left hql] at hr
    obtain ⟨p, hp, hpq, e⟩ := h q hql i hi hr
    exact ⟨p, by simp; omega, hpq, by rw [List.getElem_append_left hp]; exact e⟩
  · have hq2 : q < l.length + 1 := by simpa using hq
    obtain rfl : q = l.length := by omega
    rw [List.getElem_concat_length (by rfl)] at hr
    obtain ⟨p, hp, e⟩ := List.getElem_of_mem (k i hi hr)
    exact ⟨p, by simp; omega, hp, by rw [List.getElem_append_left hp]; exact e⟩
/-- At the start those that wait for nothing. -/
theorem Ord.start {ag : Nat → List Nat} {rt : Nat → Nat} {n : Nat} {l : List Nat} {W : Nat → Nat} (hW : ∀ r, r ∈ rootsU rt n → W r = cntU ag rt (rootsU rt n) r) (hl : l = (rootsU rt n).filter fun r => decide (W r = 0)) : Ord ag rt n l 0 [] W := by
  subst hl
  refine ⟨(rootsU_nodup rt n).filter _, fun i hi => (List.mem_filter.1 hi).1, fun r hr => by simp [cntU, hW r hr], fun r hr => by simp [hr], fun q hq i hi hr => ?_⟩
  have hm := List.getElem_mem hq
  rw [List.mem_filter] at hm
  have h0 : W _ = 0 := of_decide_eq_true hm.2
  rw [hW _ hm.1] at h0
  have := cntU_le (ag := ag) (rt := rt) (r := (List.filter (fun r => decide (W r = 0)) (rootsU rt n))[q]) (D := [i]) (R := rootsU rt n) (by simp) (by simpa using hi)
  have h2 : 0 < cntUA ag rt i (List.filter (fun r => decide (W r = 0)) (rootsU rt n))[q] := List.count_pos_iff.2 hr
  simp only [cntU] at this
  omega
/-- One more argument of the part in hand. -/
theorem Ord.arg {ag : Nat → List Nat} {rt : Nat → Nat} {n : Nat} {l : List Nat} {m k : Nat} {W : Nat → Nat} (h : Ord ag rt n l m (((ag (l.getD m 0)).map rt).take k) W) (hm : m < l.length) (hk : k < (ag (l.getD m 0)).length) (hr : rt ((ag (l.getD m 0)).getD k 0) ∈ rootsU rt n) :
    let r := rt ((ag (l.getD m 0)).getD k 0)
    0 < W r ∧ Ord ag rt n (if W r = 1 then l ++ [r] else l) m (((ag ((if W r = 1 then l ++ [r] else l).getD m 0)).map rt).take (k + 1)) (fun i => if i = r then W r - 1 else W i) := by
  intro r
  have hlm : l.getD m 0 = l[m] := by simp [hm]
  have hin : ∀ r', (l ++ [r']).getD m 0 = l.getD m 0 := fun r' => by rw [List.getD_eq_getElem?_getD, List.getElem?_append_left hm, ← List.getD_eq_getElem?_getD]
  generalize hA : (ag (l.getD m 0)).map rt = A at h ⊢
  have hkA : k < A.length := by rw [← hA, List.length_map]; exact hk
  have hrA : A[k] = r := by
    simp only [← hA, List.getElem_map, r]
    rw [List.getD_eq_getElem?_getD (l := ag _), List.getElem?_eq_getElem hk]; rfl
  have hsnoc : A.take (k + 1) = A.take k ++ [r] := by rw [List.take_succ_eq_append_getElem hkA, hrA]
  have hif : (ag ((if W r = 1 then l ++ [r] else l).getD m 0)).map rt = A := by
    split
    · rw [hin, hA]
    · exact hA
  rw [hif]
  have hroots : ∀ i ∈ l.take (m + 1), i ∈ rootsU rt n := fun i hi => h.sub i (List.mem_of_mem_take hi)
  have hnd : (l.take (m + 1)).Nodup := h.nodup.sublist (List.take_sublist _ _)
  have htk : l.take (m + 1) = l.take m ++ [l.getD m 0] := by rw [List.take_succ_eq_append_getElem hm, hlm]
  have hle := cntU_le (ag := ag) (rt := rt) (r := r) hnd hroots
  have hcA : (A.take (k + 1)).count r ≤ A.count r := (List.take_sublist _ _).count_le _
  have e1 : cntU ag rt (l.take (m + 1)) r = cntU ag rt (l.take m) r + A.count r := by
    rw [htk, cntU_append]; simp only [cntU, cntUA, hA]; omega
  have e2 : (A.take (k + 1)).count r = (A.take k).count r + 1 := by rw [hsnoc, List.count_append]; simp
  have hw := h.waits r hr
  have hpos : 0 < W r := by omega
  refine ⟨hpos, ?_⟩
  have hnl : r ∉ l := fun hc => by have := (h.done r hr).1 hc; omega
  have hwaits : ∀ r', r' ∈ rootsU rt n → (if r' = r then W r - 1 else W r') + (cntU ag rt (l.take m) r' + (A.take (k + 1)).count r') = cntU ag rt (rootsU rt n) r' := fun r' hr' => by
    have := h.waits r' hr'
    by_cases e : r' = r
    · subst e; rw [if_pos rfl]; omega
    · rw [if_neg e, hsnoc, List.count_append]
      have : List.count r' [r] = 0 := List.count_eq_zero.2 (by simpa using e)
      omega
  by_cases h1 : W r = 1
  · rw [if_pos h1]
    refine ⟨List.nodup_append.2 ⟨h.nodup, by simp, fun a ha b hb e => by simp at hb; exact hnl (by rw [← hb, ← e]; exact ha)⟩, fun i hi => ?_, fun r' hr' => ?_, fun r' hr' => ?_, h.topo.snoc fun i hi hri => ?_⟩
    · rcases List.mem_append.1 hi with hi | hi
      · exact h.sub i hi
      · simp at hi; subst hi; exact hr
    · rw [List.take_append_of_le_length (by omega)]; exact hwaits r' hr'
    · by_cases e : r' = r
      · subst e; simp; omega
      · rw [if_neg e, ← h.done r' hr']; simp [e]
    · refine List.mem_of_mem_take (cntU_all hnd hroots ?_ hi hri)
      omega
  · rw [if_neg h1]
    refine ⟨h.nodup, h.sub, hwaits, fun r' hr' => ?_, h.topo⟩
    by_cases e : r' = r
    · subst e; simp [hnl]; omega
    · rw [if_neg e]; exact h.done r' hr'
theorem getD_snoc {l : List Nat} {m : Nat} (hm : m < l.length) (r : Nat) : (l ++ [r]).getD m 0 = l.getD m 0 := by rw [List.getD_eq_getElem?_getD, List.getElem?_append_left hm, ← List.getD_eq_getElem?_getD]
theorem Ord.arg' {ag : Nat → List Nat} {rt : Nat → Nat} {n : Nat} {l : List Nat} {m k j x : Nat} {W : Nat → Nat} (hj : l.getD m 0 = j) (h : Ord ag rt n l m (((ag j).map rt).take k) W) (hm : m < l.length) (hk : k < (ag j).length) (hx : (ag j).getD k 0 = x) (hr : rt x ∈ rootsU rt n) :
    0 < W (rt x) ∧ (W (rt x) = 1 → Ord ag rt n (l ++ [rt x]) m (((ag j).map rt).take (k + 1)) (fun i => if i = rt x then W (rt x) - 1 else W i)) ∧ (W (rt x) ≠ 1 → Ord ag rt n l m (((ag j).map rt).take (k + 1)) (fun i => if i = rt x then W (rt x) - 1 else W i)) := by
  subst hj; subst hx
  obtain ⟨h1, h2⟩ := Ord.arg h hm hk hr
  refine ⟨h1, fun e => ?_, fun e => ?_⟩
  · rw [if_pos e, getD_snoc hm] at h2; exact h2
  · rw [if_neg e] at h2; exact h2
theorem Ord.next {ag : Nat → List Nat} {rt : Nat → Nat} {n : Nat} {l : List Nat} {m k : Nat} {W : Nat → Nat} (h : Ord ag rt n l m (((ag (l.getD m 0)).map rt).take k) W) (hm : m < l.length) (hk : (ag (l.getD m 0)).length ≤ k) : Ord ag rt n l (m + 1) [] W := by
  refine ⟨h.nodup, h.sub, fun r hr => ?_, h.done, h.topo⟩
  have := h.waits r hr
  rw [List.take_of_length_le (show ((ag (l.getD m 0)).map rt).length ≤ k by rw [List.length_map]; exact hk)] at this
  have hlm : l.getD m 0 = l[m] := by simp [hm]
  rw [List.take_succ_eq_append_getElem hm, cntU_append]
  simp only [cntU, cntUA, List.count_nil]
  rw [hlm] at this
  omega
theorem cntU_zero {ag : Nat → List Nat} {rt : Nat → Nat} {r : Nat} : ∀ {D : List Nat}, (∀ i ∈ D, r ∉ (ag i).map rt) → cntU ag rt D r = 0
  | [], _ => rfl
  | a :: D, hD => by
    rw [cntU, cntU_zero fun i hi => hD i (List.mem_cons_of_mem _ hi)]
    have : cntUA ag rt a r = 0 := List.count_eq_zero.2 (hD a (by simp))
    omega
theorem cntU_split {ag : Nat → List Nat} {rt : Nat → Nat} {r : Nat} (p : Nat → Bool) : ∀ R : List Nat, cntU ag rt R r = cntU ag rt (R.filter p) r + cntU ag rt (R.filter fun i => !p i) r
  | [] => rfl
  | a :: R => by
    rw [cntU, cntU_split p R, List.filter_cons, List.filter_cons]
    cases hp : p a <;> simp [cntU] <;> omega
/-- A part with the most of a measure. -/
theorem most_of (m : Nat → Nat) : ∀ (l : List Nat), l ≠ [] → ∃ r ∈ l, ∀ i ∈ l, m i ≤ m r
  | [], h => absurd rfl h
  | a :: l, _ => by
    by_cases hl : l = []
    · exact ⟨a, by simp, fun i hi => by rw [hl] at hi; simp at hi; rw [hi]; exact Nat.le_refl _⟩
    · obtain ⟨r, hr, h⟩ := most_of m l hl
      by_cases h1 : m a ≤ m r
      · exact ⟨r, List.mem_cons_of_mem _ hr, fun i hi => (List.mem_cons.1 hi).elim (fun e => e ▸ h1) (h i)⟩
      · exact ⟨a, by simp, fun i hi => (List.mem_cons.1 hi).elim (fun e => e ▸ Nat.le_refl _) (fun hi => by have := h i hi; omega)⟩
theorem all_of_len {l R : List Nat} (hn : l.Nodup) (hs : ∀ i ∈ l, i ∈ R) (hl : l.length = R.length) : ∀ i ∈ R, i ∈ l := by
  intro i hi
  by_cases h : i ∈ l
  · exact h
  · have := nodup_len (l := i :: l) (R := R) (List.nodup_cons.2 ⟨h, hn⟩) fun j hj => by
      rcases List.mem_cons.1 hj with rfl | hj
      · exact hi
      · exact hs j hj
    rw [List.length_cons] at this; omega
/-- In the end: all roots are told just if no part stands within itself. -/
theorem Ord.ends {G : Gr} {rt : Nat → Nat} {l : List Nat} {W : Nat → Nat} (g : GI G rt) (h : Ord G.ag rt G.N l l.length [] W) : (l.length = (rootsU rt G.N).length ↔ Acyc G rt) ∧ (l.length = (rootsU rt G.N).length → (∀ i, i < G.N → rt i = i → i ∈ l) ∧ ∀ q (hq : q < l.length), ∀ x ∈ G.ag l[q], ∃ p, ∃ hp : p < l.length, q < p ∧ l[p] = rt x) := by
  have key : l.length = (rootsU rt G.N).length → (∀ i, i < G.N → rt i = i → i ∈ l) ∧ ∀ q (hq : q < l.length), ∀ x ∈ G.ag l[q], ∃ p, ∃ hp : p < l.length, q < p ∧ l[p] = rt x := by
    intro hl
    have hall := all_of_len h.nodup h.sub hl
    refine ⟨fun i hi ri => hall i (mem_roots.2 ⟨hi, ri⟩), fun q hq x hx => ?_⟩
    have hlq := mem_roots.1 (h.sub _ (List.getElem_mem hq))
    have hxN := g.ok.arg hlq.1 hx
    have hrx := hall (rt x) (mem_roots.2 ⟨g.lt x hxN, g.fix x hxN⟩)
    obtain ⟨p, hp, e⟩ := List.getElem_of_mem hrx
    obtain ⟨q', hq', hlt, e'⟩ := h.topo p hp l[q] (h.sub _ (List.getElem_mem hq)) (by rw [e]; exact List.mem_map.2 ⟨x, hx, rfl⟩)
    have : q' = q := by have := congrArg (fun x => l.idxOf x) e'; simpa only [h.nodup.idxOf_getElem q' hq', h.nodup.idxOf_getElem q hq] using this
    exact ⟨p, hp, by omega, e⟩
  refine ⟨⟨fun hl => ?_, fun hA => ?_⟩, key⟩
  · obtain ⟨k1, k2⟩ := key hl
    refine ⟨fun i => l.length - l.idxOf i, fun i hi ri x hx => ?_⟩
    obtain ⟨q, hq, e⟩ := List.getElem_of_mem (k1 i hi ri)
    subst e
    obtain ⟨p, hp, hlt, e⟩ := k2 q hq x hx
    show l.length - l.idxOf (rt x) < l.length - l.idxOf l[q]
    rw [← e, h.nodup.idxOf_getElem q hq, h.nodup.idxOf_getElem p hp]
    omega
  · obtain ⟨m, hm⟩ := hA
    by_cases hl : l.length = (rootsU rt G.N).length
    · exact hl
    · exfalso
      have hex : ((rootsU rt G.N).filter fun i => decide (i ∉ l)) ≠ [] := by
        intro he
        apply hl
        refine Nat.le_antisymm (nodup_len h.nodup h.sub) (nodup_len (rootsU_nodup rt G.N) fun i hi => ?_)
        rw [List.filter_eq_nil_iff] at he
        simpa using he i hi
      obtain ⟨r, hr, hmost⟩ := most_of m _ hex
      rw [List.mem_filter] at hr
      have hrl : r ∉ l := of_decide_eq_true hr.2
      have hw := h.waits r hr.1
      rw [List.take_length, List.count_nil] at hw
      have hpos : 0 < W r := by
        rcases Nat.eq_zero_or_pos (W r) with h0 | h0
        · exact absurd ((h.done r hr.1).2 h0) hrl
        · exact h0
      have hno : ∀ i ∈ (rootsU rt G.N).filter (fun i => !decide (i ∈ l)), r ∉ (G.ag i).map rt := fun i hi hri => by
        have hi2 := hmost i (by simpa using hi)
        have hi3 := mem_roots.1 (List.mem_filter.1 hi).1
        obtain ⟨x, hx, e⟩ := List.mem_map.1 hri
        have := hm i hi3.1 hi3.2 x hx
        rw [e] at this; omega
      have h1 := cntU_split (ag := G.ag) (rt := rt) (r := r) (fun i => decide (i ∈ l)) (rootsU rt G.N)
      rw [cntU_zero hno] at h1
      have h2 := cntU_le (ag := G.ag) (rt := rt) (r := r) (D := (rootsU rt G.N).filter fun i => decide (i ∈ l)) (R := l) ((rootsU_nodup rt G.N).filter _) fun i hi => of_decide_eq_true (List.mem_filter.1 hi).2
      omega
end Go.Proofs.YtdcfemojkdoakaaDoor
