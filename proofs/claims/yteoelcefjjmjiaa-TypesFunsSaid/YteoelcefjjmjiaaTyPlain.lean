/- Types as plain data, their texts, and that unlike types have unlike texts. -/
import Derived.WalkKit
namespace Go.Proofs.Yteoelcefjjmjiaa

inductive T where
  | var (n : ByteArray)
  | con (n : ByteArray) (l : List T)
  | fn (a b : T)
  | all (n : ByteArray) (a : T)

namespace T
def arrow : T → Bool
  | fn _ _ => true
  | all _ _ => true
  | _ => false
def wide : T → Bool
  | fn _ _ => true
  | all _ _ => true
  | con _ l => !l.isEmpty
  | var _ => false
def br (b : Bool) (s : List UInt8) : List UInt8 := if b then [40] ++ (s ++ [41]) else s
mutual
def text : T → List UInt8
  | var n => n.data.toList
  | con n l => n.data.toList ++ texts l
  | fn a b => br a.arrow (text a) ++ ([32, 45, 62, 32] ++ text b)
  | all n a => [102, 111, 114, 97, 108, 108, 32] ++ (n.data.toList ++ ([46, 32] ++ text a))
def texts : List T → List UInt8
  | [] => []
  | t :: r => ([32] ++ br t.wide (text t)) ++ texts r
end
def arg (t : T) : List UInt8 := br t.wide t.text
theorem texts_cons (t : T) (r : List T) : texts (t :: r) = ([32] ++ arg t) ++ texts r := by rw [texts]; rfl

/-- The names of types that the statement makes. -/
def vnames : List (List UInt8) := [[97], [98], [99]]
def cnames : List (List UInt8) := [[73, 110, 116], [66, 111, 111, 108], [76, 105, 115, 116], [80, 97, 105, 114]]
def classes : List (List UInt8) := [[69, 113], [79, 114, 100], [83, 104, 111, 119], [78, 117, 109]]
mutual
def Good : T → Prop
  | var n => n.data.toList ∈ vnames
  | con n l => n.data.toList ∈ cnames ∧ Goods l
  | fn a b => Good a ∧ Good b
  | all _ _ => False
def Goods : List T → Prop
  | [] => True
  | t :: r => Good t ∧ Goods r
end

def isL (c : UInt8) : Bool := (97 ≤ c && c ≤ 122) || (65 ≤ c && c ≤ 90)
def nam (s : List UInt8) : List UInt8 := s.takeWhile isL
def rst (s : List UInt8) : List UInt8 := s.dropWhile isL
def upper (s : List UInt8) : Bool := match s with
  | c :: _ => 65 ≤ c && c ≤ 90
  | [] => false

mutual
def pT : Nat → List UInt8 → Option (T × List UInt8)
  | 0, _ => none
  | f + 1, s => match pA f s with
    | some (a, 32 :: 45 :: 62 :: 32 :: r) => match pT f r with
      | some (b, r') => some (fn a b, r')
      | none => none
    | x => x
def pA : Nat → List UInt8 → Option (T × List UInt8)
  | 0, _ => none
  | f + 1, 40 :: r => match pT f r with
    | some (a, 41 :: r') => some (a, r')
    | _ => none
  | f + 1, s => if upper s then (match pArgs f (rst s) with
      | some (l, r) => some (con ⟨(nam s).toArray⟩ l, r)
      | none => none) else some (var ⟨(nam s).toArray⟩, rst s)
def pArgs : Nat → List UInt8 → Option (List T × List UInt8)
  | 0, _ => none
  | f + 1, 32 :: c :: r => if c == 45 then some ([], 32 :: c :: r) else match pArg f (c :: r) with
    | some (t, r1) => match pArgs f r1 with
      | some (l, r2) => some (t :: l, r2)
      | none => none
    | none => none
  | _ + 1, s => some ([], s)
def pArg : Nat → List UInt8 → Option (T × List UInt8)
  | 0, _ => none
  | f + 1, 40 :: r => match pT f r with
    | some (a, 41 :: r') => some (a, r')
    | _ => none
  | _ + 1, s => if upper s then some (con ⟨(nam s).toArray⟩ [], rst s) else some (var ⟨(nam s).toArray⟩, rst s)
end

/-- What stands behind a type's text: no letter, and no blank but that of an arrow. -/
def NL (x : List UInt8) : Prop := ∀ c r, x = c :: r → isL c = false
def Behind (x : List UInt8) : Prop := NL x ∧ ∀ c r, x = 32 :: c :: r → c = 45
def End (x : List UInt8) : Prop := x = [] ∨ ∃ r, x = 41 :: r ∨ x = 44 :: r
theorem End.nl {x : List UInt8} (h : End x) : NL x := by
  rcases h with rfl | ⟨r, rfl | rfl⟩
  · intro c r h; cases h
  · intro c r h; cases h; decide
  · intro c r h; cases h; decide
theorem End.behind {x : List UInt8} (h : End x) : Behind x := by
  refine ⟨h.nl, ?_⟩
  rcases h with rfl | ⟨r, rfl | rfl⟩
  · intro c r h; cases h
  · intro c r h; cases h
  · intro c r h; cases h
theorem nam_of {n x : List UInt8} (hn : n.all isL = true) (hx : NL x) : nam (n ++ x) = n ∧ rst (n ++ x) = x := by
  induction n with
  | nil =>
    cases x with
    | nil => exact ⟨rfl, rfl⟩
    | cons c r =>
      have := hx c r rfl
      simp [nam, rst, this]
  | cons c r ih =>
    simp at hn
    have := ih (by simpa using hn.2)
    simp [nam, rst, hn.1] at this ⊢
    exact this
theorem vname {n : List UInt8} (h : n ∈ vnames) : n.all isL = true ∧ (∀ x, upper (n ++ x) = false) ∧ (∀ x r, n ++ x ≠ 40 :: r) ∧ n ∉ classes := by
  simp [vnames] at h
  rcases h with rfl | rfl | rfl <;> exact ⟨by decide, fun x => rfl, fun x r h => (by cases h), by decide⟩
theorem cname {n : List UInt8} (h : n ∈ cnames) : n.all isL = true ∧ (∀ x, upper (n ++ x) = true) ∧ (∀ x r, n ++ x ≠ 40 :: r) ∧ n ∉ classes := by
  simp [cnames] at h
  rcases h with rfl | rfl | rfl | rfl <;> exact ⟨by decide, fun x => rfl, fun x r h => (by cases h), by decide⟩
theorem arr_list (n : ByteArray) : (⟨(n.data.toList).toArray⟩ : ByteArray) = n := by cases n; simp

theorem pA_name (f : Nat) (s : List UInt8) (h : ∀ r, s ≠ 40 :: r) : pA (f + 1) s = if upper s then (match pArgs f (rst s) with
      | some (l, r) => some (con ⟨(nam s).toArray⟩ l, r)
      | none => none) else some (var ⟨(nam s).toArray⟩, rst s) := by
  rw [pA]
  exact fun r e => h r e
theorem pArg_name (f : Nat) (s : List UInt8) (h : ∀ r, s ≠ 40 :: r) : pArg (f + 1) s = if upper s then some (con ⟨(nam s).toArray⟩ [], rst s) else some (var ⟨(nam s).toArray⟩, rst s) := by
  rw [pArg]
  exact fun r e => h r e
theorem pT_plain (f : Nat) (s x : List UInt8) (a : T) (h : pA f s = some (a, x)) (hx : ∀ r, x ≠ 32 :: 45 :: 62 :: 32 :: r) : pT (f + 1) s = some (a, x) := by
  rw [pT, h]
  split
  · rename_i h'; cases h'; exact absurd rfl (hx _)
  · rfl
theorem pArgs_end (f : Nat) (x : List UInt8) (h : Behind x) : pArgs (f + 1) x = some ([], x) := by
  cases x with
  | nil => rw [pArgs]; intro c r h; cases h
  | cons c r =>
    cases r with
    | nil => rw [pArgs]; intro c r h; cases h
    | cons d r =>
      by_cases hc : c = 32
      · subst hc
        have := h.2 d r rfl
        subst this
        rw [pArgs]; rfl
      · rw [pArgs]
        intro c' r' h'; cases h'; exact hc rfl

mutual
theorem text_read (t : T) (hg : Good t) (x : List UInt8) : (t.arrow = false → Behind x → ∃ n, ∀ f, n ≤ f → pA f (text t ++ x) = some (t, x)) ∧ (End x → ∃ n, ∀ f, n ≤ f → pT f (text t ++ x) = some (t, x)) := by
  have fin : (t.arrow = false → Behind x → ∃ n, ∀ f, n ≤ f → pA f (text t ++ x) = some (t, x)) → t.arrow = false → (End x → ∃ n, ∀ f, n ≤ f → pT f (text t ++ x) = some (t, x)) := by
    intro h ha he
    obtain ⟨n, hn⟩ := h ha he.behind
    refine ⟨n + 1, fun f hf => ?_⟩
    obtain ⟨g, rfl⟩ : ∃ g, f = g + 1 := ⟨f - 1, by omega⟩
    refine pT_plain g _ x t (hn g (by omega)) ?_
    rcases he with rfl | ⟨r, rfl | rfl⟩ <;> intro r h <;> cases h
  cases t with
  | var n =>
    rw [Good] at hg
    obtain ⟨h1, h2, h3, _⟩ := vname hg
    have A : (var n).arrow = false → Behind x → ∃ k, ∀ f, k ≤ f → pA f (text (var n) ++ x) = some (var n, x) := by
      intro _ hb
      refine ⟨1, fun f hf => ?_⟩
      obtain ⟨g, rfl⟩ : ∃ g, f = g + 1 := ⟨f - 1, by omega⟩
      rw [text, pA_name g _ (h3 x), h2 x]
      obtain ⟨e1, e2⟩ := nam_of h1 hb.1
      rw [e1, e2, arr_list]
      rfl
    exact ⟨A, fin A rfl⟩
  | con n l =>
    rw [Good] at hg
    obtain ⟨h1, h2, h3, _⟩ := cname hg.1
    have A : (con n l).arrow = false → Behind x → ∃ k, ∀ f, k ≤ f → pA f (text (con n l) ++ x) = some (con n l, x) := by
      intro _ hb
      obtain ⟨k, hk⟩ := texts_read l hg.2 x hb
      refine ⟨k + 1, fun f hf => ?_⟩
      obtain ⟨g, rfl⟩ : ∃ g, f = g + 1 := ⟨f - 1, by omega⟩
      rw [text, List.append_assoc, pA_name g _ (h3 _), h2 _]
      have hnl : NL (texts l ++ x) := by
        cases l with
        | nil => rw [texts]; exact hb.1
        | cons t r => intro c r' h; rw [texts] at h; cases h; decide
      obtain ⟨e1, e2⟩ := nam_of h1 hnl
      rw [e1, e2, arr_list, hk g (by omega)]
      rfl
    exact ⟨A, fin A rfl⟩
  | fn a b =>
    rw [Good] at hg
    refine ⟨fun h => (by cases h), fun he => ?_⟩
    obtain ⟨nb, hb⟩ := (text_read b hg.2 x).2 he
    have hA : ∃ n, ∀ f, n ≤ f → pA f (br a.arrow (text a) ++ ([32, 45, 62, 32] ++ (text b ++ x))) = some (a, [32, 45, 62, 32] ++ (text b ++ x)) := by
      by_cases ha : a.arrow = true
      · obtain ⟨n, hn⟩ := (text_read a hg.1 (41 :: ([32, 45, 62, 32] ++ (text b ++ x)))).2 (.inr ⟨_, .inl rfl⟩)
        refine ⟨n + 1, fun f hf => ?_⟩
        obtain ⟨g, rfl⟩ : ∃ g, f = g + 1 := ⟨f - 1, by omega⟩
        have e : br a.arrow (text a) ++ ([32, 45, 62, 32] ++ (text b ++ x)) = 40 :: (text a ++ 41 :: ([32, 45, 62, 32] ++ (text b ++ x))) := by simp [br, ha]
        rw [e, pA, hn g (by omega)]
        rfl
      · have ha' : a.arrow = false := by simpa using ha
        obtain ⟨n, hn⟩ := (text_read a hg.1 ([32, 45, 62, 32] ++ (text b ++ x))).1 ha' ⟨fun c r h => (by cases h; decide), fun c r h => (by cases h; rfl)⟩
        exact ⟨n, fun f hf => by rw [br, ha', if_neg (by decide)]; exact hn f hf⟩
    obtain ⟨na, ha⟩ := hA
    refine ⟨na + nb + 1, fun f hf => ?_⟩
    obtain ⟨g, rfl⟩ : ∃ g, f = g + 1 := ⟨f - 1, by omega⟩
    rw [text, List.append_assoc, List.append_assoc, pT, ha g (by omega)]
    show (match pT g (text b ++ x) with | some (b, r') => some (fn a b, r') | none => none) = _
    rw [hb g (by omega)]
  | all n a => rw [Good] at hg; exact hg.elim
theorem texts_read (l : List T) (hg : Goods l) (x : List UInt8) (hb : Behind x) : ∃ n, ∀ f, n ≤ f → pArgs f (texts l ++ x) = some (l, x) := by
  cases l with
  | nil =>
    refine ⟨1, fun f hf => ?_⟩
    obtain ⟨g, rfl⟩ : ∃ g, f = g + 1 := ⟨f - 1, by omega⟩
    rw [texts]
    exact pArgs_end g x hb
  | cons t r =>
    rw [Goods] at hg
    obtain ⟨n2, h2⟩ := texts_read r hg.2 x hb
    have hnl : NL (texts r ++ x) := by
      cases r with
      | nil => rw [texts]; exact hb.1
      | cons t' r' => intro c r'' h; rw [texts] at h; cases h; decide
    have h1 : ∃ n, ∀ f, n ≤ f → pArg f (br t.wide (text t) ++ (texts r ++ x)) = some (t, texts r ++ x) := by
      by_cases hw : t.wide = true
      · obtain ⟨n, hn⟩ := (text_read t hg.1 (41 :: (texts r ++ x))).2 (.inr ⟨_, .inl rfl⟩)
        refine ⟨n + 1, fun f hf => ?_⟩
        obtain ⟨g, rfl⟩ : ∃ g, f = g + 1 := ⟨f - 1, by omega⟩
        have e : br t.wide (text t) ++ (texts r ++ x) = 40 :: (text t ++ 41 :: (texts r ++ x)) := by simp [br, hw]
        rw [e, pArg, hn g (by omega)]
        rfl
      · refine ⟨1, fun f hf => ?_⟩
        obtain ⟨g, rfl⟩ : ∃ g, f = g + 1 := ⟨f - 1, by omega⟩
        have hw' : t.wide = false := by simpa using hw
        have hg1 := hg.1
        cases t with
        | var n =>
          rw [Good] at hg1
          obtain ⟨h1, h2, h3, _⟩ := vname hg1
          rw [br, hw', if_neg (by decide), text, pArg_name g _ (h3 _), h2 _]
          obtain ⟨e1, e2⟩ := nam_of h1 hnl
          rw [e1, e2, arr_list]
          rfl
        | con n l =>
          rw [Good] at hg1
          obtain ⟨h1, h2, h3, _⟩ := cname hg1.1
          have hl : l = [] := by simpa [wide] using hw'
          subst hl
          rw [br, hw', if_neg (by decide), text, texts, List.append_nil, pArg_name g _ (h3 _), h2 _]
          obtain ⟨e1, e2⟩ := nam_of h1 hnl
          rw [e1, e2, arr_list]
          rfl
        | fn a b => cases hw'
        | all n a => cases hw'
    obtain ⟨n1, h1⟩ := h1
    have hhd : ∃ c q, br t.wide (text t) ++ (texts r ++ x) = c :: q ∧ c ≠ 45 := by
      have hg1 := hg.1
      by_cases hw : t.wide = true
      · exact ⟨40, text t ++ 41 :: (texts r ++ x), by simp [br, hw], by decide⟩
      · have hw' : t.wide = false := by simpa using hw
        have hne : ∀ n : List UInt8, n.all isL = true → n ≠ [] → ∃ c q, n = c :: q ∧ c ≠ 45 := by
          intro n hn h0
          cases n with
          | nil => exact absurd rfl h0
          | cons c q => exact ⟨c, q, rfl, fun e => by subst e; simp [isL] at hn⟩
        cases t with
        | var n =>
          rw [Good] at hg1
          obtain ⟨c, q, e, hc⟩ := hne _ (vname hg1).1 (by intro e; rw [e] at hg1; exact absurd hg1 (by decide))
          exact ⟨c, q ++ (texts r ++ x), by rw [br, hw', if_neg (by decide), text, e]; rfl, hc⟩
        | con n l =>
          rw [Good] at hg1
          obtain ⟨c, q, e, hc⟩ := hne _ (cname hg1.1).1 (by intro e; rw [e] at hg1; exact absurd hg1.1 (by decide))
          have hl : l = [] := by simpa [wide] using hw'
          subst hl
          exact ⟨c, q ++ (texts r ++ x), by rw [br, hw', if_neg (by decide), text, texts, e]; simp, hc⟩
        | fn a b => cases hw'
        | all n a => cases hw'
    obtain ⟨c, q, hcq, hc⟩ := hhd
    refine ⟨n1 + n2 + 1, fun f hf => ?_⟩
    obtain ⟨g, rfl⟩ : ∃ g, f = g + 1 := ⟨f - 1, by omega⟩
    have e : texts (t :: r) ++ x = 32 :: c :: q := by rw [texts, ← hcq]; simp
    rw [e, pArgs, if_neg (by simpa using hc), ← hcq, h1 g (by omega)]
    show (match pArgs g (texts r ++ x) with | some (l, r2) => some (t :: l, r2) | none => none) = _
    rw [h2 g (by omega)]
end

theorem text_inj {t u : T} (ht : Good t) (hu : Good u) (h : text t = text u) : t = u := by
  obtain ⟨n, hn⟩ := (text_read t ht []).2 (.inl rfl)
  obtain ⟨m, hm⟩ := (text_read u hu []).2 (.inl rfl)
  have a := hn (n + m) (by omega)
  have b := hm (n + m) (by omega)
  rw [h, b] at a
  cases a; rfl
end T
end Go.Proofs.Yteoelcefjjmjiaa
