/- Unlike schemes have unlike texts. -/
import Derived.Test.YtlfbmbbfcijedaaScheme
namespace Go.Proofs.Ytlfbmbbfcijedaa
namespace T

theorem arg_read (t : T) (hg : Good t) (x : List UInt8) (hnl : NL x) : ∃ n, ∀ f, n ≤ f → pArg f (arg t ++ x) = some (t, x) := by
  unfold arg
  by_cases hw : t.wide = true
  · obtain ⟨n, hn⟩ := (text_read t hg (41 :: x)).2 (.inr ⟨_, .inl rfl⟩)
    refine ⟨n + 1, fun f hf => ?_⟩
    obtain ⟨g, rfl⟩ : ∃ g, f = g + 1 := ⟨f - 1, by omega⟩
    have e : br t.wide (text t) ++ x = 40 :: (text t ++ 41 :: x) := by simp [br, hw]
    rw [e, pArg, hn g (by omega)]
    rfl
  · refine ⟨1, fun f hf => ?_⟩
    obtain ⟨g, rfl⟩ : ∃ g, f = g + 1 := ⟨f - 1, by omega⟩
    have hw' : t.wide = false := by simpa using hw
    have hg1 := hg
    cases t with
    | var n =>
      rw [Good] at hg1
      obtain ⟨h1, h2, h3, _⟩ := vname hg1
      rw [br, hw', if_neg (by decide), text, pArg_name g _ (h3 _), h2 _]
      obtain ⟨e1, e2⟩ := nam_of h1 hnl
      rw [e1, e2, arr_list]
      rfl
    | con n l =>
      rw [Good] at hg1
      obtain ⟨h1, h2, h3, _⟩ := cname hg1.1
      have hl : l = [] := by simpa [wide] using hw'
      subst hl
      rw [br, hw', if_neg (by decide), text, texts, List.append_nil, pArg_name g _ (h3 _), h2 _]
      obtain ⟨e1, e2⟩ := nam_of h1 hnl
      rw [e1, e2, arr_list]
      rfl
    | fn a b => cases hw'
    | all n a => cases hw'

/-- A type's text begins with no class's name, bracket or none ahead. -/
theorem lead (t : T) (hg : Good t) (x : List UInt8) (hx : NL x) : nam (text t ++ x) ∉ classes ∧ ∀ r, text t ++ x = 40 :: r → nam r ∉ classes := by
  cases t with
  | var n =>
    rw [Good] at hg
    obtain ⟨h1, _, h3, h4⟩ := vname hg
    rw [text]
    exact ⟨by rw [(nam_of h1 hx).1]; exact h4, fun r e => absurd e (h3 x r)⟩
  | con n l =>
    rw [Good] at hg
    obtain ⟨h1, _, h3, h4⟩ := cname hg.1
    rw [text, List.append_assoc]
    have hnl : NL (texts l ++ x) := by
      cases l with
      | nil => rw [texts]; exact hx
      | cons t r => intro c r' h; rw [texts] at h; cases h; decide
    exact ⟨by rw [(nam_of h1 hnl).1]; exact h4, fun r e => absurd e (h3 _ r)⟩
  | fn a b =>
    rw [Good] at hg
    rw [text, List.append_assoc]
    by_cases ha : a.arrow = true
    · have e : br a.arrow (text a) ++ ([32, 45, 62, 32] ++ text b ++ x) = 40 :: (text a ++ (41 :: ([32, 45, 62, 32] ++ text b ++ x))) := by simp [br, ha]
      rw [e]
      refine ⟨by show ([] : List UInt8) ∉ classes; decide, fun r h => ?_⟩
      cases h
      exact (lead a hg.1 _ (fun c r h => by cases h; decide)).1
    · have ha' : a.arrow = false := by simpa using ha
      rw [br, ha', if_neg (by decide)]
      exact lead a hg.1 _ (fun c r h => by cases h; decide)
  | all n a => rw [Good] at hg; exact hg.elim
end T

def pPred (f : Nat) (s : List UInt8) : Option (Pr × List UInt8) := match T.rst s with
  | 32 :: r => match T.pArg f r with
    | some (t, r') => some ((⟨(T.nam s).toArray⟩, t), r')
    | none => none
  | _ => none
def pMore : Nat → List UInt8 → Option (List Pr × List UInt8)
  | 0, _ => none
  | f + 1, 44 :: 32 :: r => match pPred f r with
    | some (p, r1) => match pMore f r1 with
      | some (l, r2) => some (p :: l, r2)
      | none => none
    | none => none
  | _ + 1, s => some ([], s)
open Classical in
noncomputable def pSch (f : Nat) (s : List UInt8) : Option (List Pr × T) := match s with
  | 40 :: r => if T.nam r ∈ T.classes then (match pPred f r with
      | some (p, r1) => match pMore f r1 with
        | some (l, 41 :: 32 :: 61 :: 62 :: 32 :: r2) => (T.pT f r2).map fun q => (p :: l, q.1)
        | _ => none
      | none => none) else (T.pT f (40 :: r)).map fun q => ([], q.1)
  | s => if T.nam s ∈ T.classes then (match pPred f s with
      | some (p, 32 :: 61 :: 62 :: 32 :: r) => (T.pT f r).map fun q => ([p], q.1)
      | _ => none) else (T.pT f s).map fun q => ([], q.1)

def GoodP (p : Pr) : Prop := p.1.data.toList ∈ T.classes ∧ T.Good p.2
theorem clname {n : List UInt8} (h : n ∈ T.classes) : n.all T.isL = true ∧ (∀ x r, n ++ x ≠ 40 :: r) := by
  simp [T.classes] at h
  rcases h with rfl | rfl | rfl | rfl <;> exact ⟨by decide, fun x r h => by cases h⟩
theorem pred_read (p : Pr) (hg : GoodP p) (x : List UInt8) (hx : T.NL x) : (∃ n, ∀ f, n ≤ f → pPred f (prText p ++ x) = some (p, x)) ∧ T.nam (prText p ++ x) ∈ T.classes ∧ ∀ r, prText p ++ x ≠ 40 :: r := by
  obtain ⟨h1, h2⟩ := clname hg.1
  obtain ⟨n, hn⟩ := T.arg_read p.2 hg.2 x hx
  have e : prText p ++ x = p.1.data.toList ++ (32 :: (T.arg p.2 ++ x)) := by simp [prText]
  obtain ⟨e1, e2⟩ := T.nam_of h1 (x := 32 :: (T.arg p.2 ++ x)) (fun c r h => by cases h; decide)
  rw [e]
  refine ⟨⟨n, fun f hf => ?_⟩, by rw [e1]; exact hg.1, fun r => h2 _ r⟩
  unfold pPred
  rw [e1, e2, T.arr_list]
  show (match T.pArg f (T.arg p.2 ++ x) with | some (t, r') => some ((p.1, t), r') | none => none) = _
  rw [hn f hf]
theorem more_read (l : List Pr) (hg : ∀ p ∈ l, GoodP p) (x : List UInt8) : ∃ n, ∀ f, n ≤ f → pMore f (joins l ++ (41 :: x)) = some (l, 41 :: x) := by
  induction l with
  | nil =>
    refine ⟨1, fun f hf => ?_⟩
    obtain ⟨g, rfl⟩ : ∃ g, f = g + 1 := ⟨f - 1, by omega⟩
    rfl
  | cons p r ih =>
    obtain ⟨n1, h1⟩ := ih (fun q hq => hg q (List.mem_cons_of_mem _ hq))
    have hnl : T.NL (joins r ++ (41 :: x)) := by
      cases r with
      | nil => intro c r' h; cases h; decide
      | cons q r => intro c r' h; rw [joins] at h; cases h; decide
    obtain ⟨n2, h2⟩ := (pred_read p (hg p (List.mem_cons_self ..)) _ hnl).1
    refine ⟨n1 + n2 + 1, fun f hf => ?_⟩
    obtain ⟨g, rfl⟩ : ∃ g, f = g + 1 := ⟨f - 1, by omega⟩
    have e : joins (p :: r) ++ (41 :: x) = 44 :: 32 :: (prText p ++ (joins r ++ (41 :: x))) := by rw [joins]; simp
    rw [e, pMore, h2 g (by omega)]
    show (match pMore g (joins r ++ (41 :: x)) with | some (l, r2) => some (p :: l, r2) | none => none) = _
    rw [h1 g (by omega)]
theorem sch_read (l : List Pr) (t : T) (hl : ∀ p ∈ l, GoodP p) (ht : T.Good t) : ∃ n, ∀ f, n ≤ f → pSch f (schText l t) = some (l, t) := by
  obtain ⟨n1, h1⟩ := (T.text_read t ht []).2 (.inl rfl)
  rw [List.append_nil] at h1
  match l, hl with
  | [], _ =>
    refine ⟨n1, fun f hf => ?_⟩
    have hd := T.lead t ht [] (fun c r h => by cases h)
    rw [List.append_nil] at hd
    show pSch f (T.text t) = _
    unfold pSch
    split
    · rename_i r he
      rw [if_neg (hd.2 r he), ← he, h1 f hf]; rfl
    · rw [if_neg hd.1, h1 f hf]; rfl
  | [p], hl =>
    obtain ⟨⟨n2, h2⟩, h3, h4⟩ := pred_read p (hl p (by simp)) ([32, 61, 62, 32] ++ T.text t) (fun c r h => by cases h; decide)
    refine ⟨n1 + n2, fun f hf => ?_⟩
    have e : schText [p] t = prText p ++ ([32, 61, 62, 32] ++ T.text t) := by simp [schText, ctxText]
    rw [e]
    unfold pSch
    split
    · rename_i r he; exact absurd he (h4 r)
    · rw [if_pos h3, h2 f (by omega)]
      show (T.pT f (T.text t)).map _ = _
      rw [h1 f (by omega)]; rfl
  | p :: q :: r, hl =>
    obtain ⟨n3, h5⟩ := more_read (q :: r) (fun x hx => hl x (List.mem_cons_of_mem _ hx)) ([32, 61, 62, 32] ++ T.text t)
    obtain ⟨⟨n2, h2⟩, h3, _⟩ := pred_read p (hl p (by simp)) (joins (q :: r) ++ (41 :: ([32, 61, 62, 32] ++ T.text t))) (fun c r h => by rw [joins] at h; cases h; decide)
    refine ⟨n1 + n2 + n3, fun f hf => ?_⟩
    have e : schText (p :: q :: r) t = 40 :: (prText p ++ (joins (q :: r) ++ (41 :: ([32, 61, 62, 32] ++ T.text t)))) := by simp [schText, ctxText, eachP]
    rw [e, pSch, if_pos h3, h2 f (by omega)]
    show (match pMore f (joins (q :: r) ++ (41 :: ([32, 61, 62, 32] ++ T.text t))) with | some (l, 41 :: 32 :: 61 :: 62 :: 32 :: r2) => (T.pT f r2).map fun q : T × List UInt8 => (p :: l, q.1) | _ => none) = _
    rw [h5 f (by omega)]
    show (T.pT f (T.text t)).map _ = _
    rw [h1 f (by omega)]; rfl
theorem sch_inj {l m : List Pr} {t u : T} (hl : ∀ p ∈ l, GoodP p) (hm : ∀ p ∈ m, GoodP p) (ht : T.Good t) (hu : T.Good u) (h : schText l t = schText m u) : l = m ∧ t = u := by
  obtain ⟨n, hn⟩ := sch_read l t hl ht
  obtain ⟨k, hk⟩ := sch_read m u hm hu
  have a := hn (n + k) (by omega)
  have b := hk (n + k) (by omega)
  rw [h, b] at a
  cases a
  exact ⟨rfl, rfl⟩
end Go.Proofs.Ytlfbmbbfcijedaa
