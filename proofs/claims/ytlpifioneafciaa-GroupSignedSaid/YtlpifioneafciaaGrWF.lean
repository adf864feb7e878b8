/- The search as plain data: what stays true of it. -/
import Derived.Test.YtlpifioneafciaaGrPlain
namespace Go.Proofs.Ytlpifioneafciaa

theorem getLastD_snoc (l : List Nat) (a : Nat) : (l ++ [a]).getLastD 0 = a := by simp
theorem dropLast_snoc (l : List Nat) (a : Nat) : (l ++ [a]).dropLast = l := by simp
/-- What closing a ring does: v and all that are open since. -/
theorem dropN_spec : ∀ (b : List Nat) (s : SS) (a : List Nat) (v : Nat), s.opn = a ++ v :: b.reverse → v ∉ b →
    SS.dropN (behindN v s.opn.reverse) s = { s with opn := a, ring := fun i => if i = v ∨ i ∈ b then s.rings else s.ring i, met := fun i => if i = v ∨ i ∈ b then grTop else s.met i }
  | [], s, a, v, h, _ => by
    have e : s.opn = a ++ [v] := by simpa using h
    rw [e, List.reverse_append]
    show SS.dropN (if v = v then 1 else _) s = _
    rw [if_pos rfl]
    show s.drop1 (s.opn.getLastD 0) = _
    rw [e, getLastD_snoc]
    unfold SS.drop1
    rw [e, dropLast_snoc]
    congr 1
    · funext i; simp [updN]
    · funext i; simp [updN]
  | x :: b, s, a, v, h, hv => by
    have e : s.opn = (a ++ v :: b.reverse) ++ [x] := by rw [h]; simp
    have hxv : x ≠ v := fun e => hv (e ▸ List.mem_cons_self ..)
    have hvb : v ∉ b := fun h => hv (List.mem_cons_of_mem _ h)
    rw [show behindN v s.opn.reverse = 1 + behindN v (a ++ v :: b.reverse).reverse from by rw [e, List.reverse_append]; show (if x = v then 1 else _) = _; rw [if_neg hxv]; rfl]
    rw [Nat.add_comm]
    show SS.dropN _ (s.drop1 (s.opn.getLastD 0)) = _
    rw [e, getLastD_snoc]
    have e2 : (s.drop1 x).opn = a ++ v :: b.reverse := by unfold SS.drop1; rw [e, dropLast_snoc]
    have ih := dropN_spec b (s.drop1 x) a v e2 hvb
    rw [e2] at ih
    rw [ih]
    unfold SS.drop1
    congr 1
    · funext i
      simp only [updN, List.mem_cons]
      by_cases h1 : i = v ∨ i ∈ b
      · rw [if_pos h1, if_pos (h1.imp id .inr)]
      · rw [if_neg h1]
        by_cases h2 : i = x
        · rw [if_pos h2, if_pos (.inr (.inl h2))]
        · rw [if_neg h2, if_neg (fun h => h1 (h.imp id fun h => h.resolve_left h2))]
    · funext i
      simp only [updN, List.mem_cons]
      by_cases h1 : i = v ∨ i ∈ b
      · rw [if_pos h1, if_pos (h1.imp id .inr)]
      · rw [if_neg h1]
        by_cases h2 : i = x
        · rw [if_pos h2, if_pos (.inr (.inl h2))]
        · rw [if_neg h2, if_neg (fun h => h1 (h.imp id fun h => h.resolve_left h2))]
theorem close_spec {s : SS} {a b : List Nat} {v : Nat} (h : s.opn = a ++ v :: b) (hv : v ∉ b) :
    s.close v = { s with opn := a, ring := fun i => if i = v ∨ i ∈ b then s.rings else s.ring i, met := fun i => if i = v ∨ i ∈ b then grTop else s.met i, rings := s.rings + 1 } := by
  have := dropN_spec b.reverse s a v (by rw [h]; simp) (by simpa using hv)
  unfold SS.close
  rw [this]
  simp
/-- How many are not met. -/
def unmet (n : Nat) (s : SS) : Nat := (List.range n).countP fun i => s.met i == 0
theorem countP_one {f g : Nat → Bool} {r : Nat} (hf : f r = true) (hg : g r = false) (he : ∀ i, i ≠ r → f i = g i) : ∀ (l : List Nat), l.Nodup → r ∈ l → l.countP f = l.countP g + 1
  | [], _, h => by cases h
  | a :: l, hn, h => by
    obtain ⟨ha, hn⟩ := List.nodup_cons.1 hn
    rw [List.countP_cons, List.countP_cons]
    by_cases e : a = r
    · subst e
      have : l.countP f = l.countP g := List.countP_congr fun i hi => by rw [he i fun e => ha (e ▸ hi)]
      rw [this, hf, hg]; simp
    · have hm : r ∈ l := (List.mem_cons.1 h).resolve_left (Ne.symm e)
      rw [countP_one hf hg he l hn hm, he a e]
      omega
theorem countP_same {f g : Nat → Bool} (l : List Nat) (h : ∀ i ∈ l, f i = g i) : l.countP f = l.countP g := List.countP_congr fun i hi => by rw [h i hi]
/-- What is left of the needs, counted. -/
def leftN (n : Nat) (s : SS) : Nat := ((List.range n).map fun i => (s.rest i).length).sum
theorem sum_one {f g : Nat → Nat} {r : Nat} (hr : f r = g r + 1) (he : ∀ i, i ≠ r → f i = g i) : ∀ (l : List Nat), l.Nodup → r ∈ l → (l.map f).sum = (l.map g).sum + 1
  | [], _, h => by cases h
  | a :: l, hn, h => by
    obtain ⟨ha, hn⟩ := List.nodup_cons.1 hn
    simp only [List.map_cons, List.sum_cons]
    by_cases e : a = r
    · subst e
      have : l.map f = l.map g := List.map_congr_left fun i hi => he i fun e => ha (e ▸ hi)
      rw [this, hr]; omega
    · have hm : r ∈ l := (List.mem_cons.1 h).resolve_left (Ne.symm e)
      rw [sum_one hr he l hn hm, he a e]; omega
/-- What stays true while all that v0 leads to is gone through. -/
structure WF (n v0 : Nat) (s : SS) : Prop where
  rests : ∀ i, i < n → ∀ x ∈ s.rest i, x < n
  pn : ∀ x ∈ s.path, x ∈ s.opn
  on : ∀ x ∈ s.opn, x < n
  ps : s.path.Pairwise fun x y => s.met x < s.met y
  os : s.opn.Pairwise fun x y => s.met x < s.met y
  mo : ∀ x ∈ s.opn, 1 ≤ s.met x ∧ s.met x ≤ s.count
  mx : ∀ i, i < n → i ∉ s.opn → s.met i = 0 ∨ s.met i = grTop
  lo : ∀ x ∈ s.opn, s.met v0 ≤ s.low x ∧ s.low x ≤ s.met x
  hd : ∀ x ∈ s.opn, s.met v0 ≤ s.met x
  hp : s.path = [] ∨ s.path.head? = some v0
  em : s.path = [] → s.opn = []
  ct : s.count + unmet n s = n
  rg : s.rings + s.opn.length ≤ s.count
theorem WF.cn {n v0 : Nat} {s : SS} (h : WF n v0 s) : s.count ≤ n := by have := h.ct; omega
theorem pw_nodup {f : Nat → Nat} : ∀ {l : List Nat}, l.Pairwise (fun x y => f x < f y) → l.Nodup := fun h => h.imp fun {x y} hlt e => by subst e; omega
theorem pw_append {f : Nat → Nat} {a b : List Nat} {v : Nat} (h : (a ++ v :: b).Pairwise fun x y => f x < f y) : (∀ x ∈ a, f x < f v) ∧ (∀ x ∈ b, f v < f x) ∧ v ∉ b ∧ v ∉ a ∧ (∀ x ∈ a, x ∉ b) := by
  obtain ⟨h1, h2, h3⟩ := List.pairwise_append.1 h
  obtain ⟨h4, h5⟩ := List.pairwise_cons.1 h2
  refine ⟨fun x hx => h3 x hx v (List.mem_cons_self ..), h4, fun hv => ?_, fun hv => ?_, fun x hx hb => ?_⟩
  · have := h4 v hv; omega
  · have := h3 v hv v (List.mem_cons_self ..); omega
  · have := h3 x hx x (List.mem_cons_of_mem _ hb); omega
theorem split_at {l : List Nat} {v : Nat} (h : v ∈ l) : ∃ a b, l = a ++ v :: b := List.append_of_mem h
theorem head_snoc {l : List Nat} {a v : Nat} (h : l.head? = some v) : (l ++ [a]).head? = some v := by
  cases l with
  | nil => cases h
  | cons x l => exact h
/-- The first of all is met, and open. -/
theorem WF.first {n v0 : Nat} {s : SS} (h : WF n v0 s) (hne : s.path ≠ []) : v0 ∈ s.path := by
  rcases h.hp with e | e
  · exact absurd e hne
  · cases hp : s.path with
    | nil => exact absurd hp hne
    | cons a l => rw [hp] at e; cases e; exact List.mem_cons_self ..
/-- One more is met. -/
theorem WF.meet {n v0 a : Nat} {s : SS} (h : WF n v0 s) (hne : s.path ≠ []) (ha : a < n) (hz : s.met a = 0) : WF n v0 (s.meet a) := by
  have hao : a ∉ s.opn := fun e => by have := (h.mo a e).1; omega
  have hap : a ∉ s.path := fun e => hao (h.pn a e)
  have hv0 := h.pn v0 (h.first hne)
  have ne : ∀ x ∈ s.opn, x ≠ a := fun x hx e => hao (e ▸ hx)
  have hv0a : v0 ≠ a := ne v0 hv0
  have mt : ∀ x, x ≠ a → updN s.met a (s.count + 1) x = s.met x := fun x hx => updN_other _ _ hx
  have lw : ∀ x, x ≠ a → updN s.low a (s.count + 1) x = s.low x := fun x hx => updN_other _ _ hx
  have ma : updN s.met a (s.count + 1) a = s.count + 1 := updN_same ..
  have la : updN s.low a (s.count + 1) a = s.count + 1 := updN_same ..
  have pw : ∀ l : List Nat, (∀ x ∈ l, x ∈ s.opn) → l.Pairwise (fun x y => s.met x < s.met y) → (l ++ [a]).Pairwise fun x y => updN s.met a (s.count + 1) x < updN s.met a (s.count + 1) y := fun l hl hp => by
    refine List.pairwise_append.2 ⟨?_, List.pairwise_singleton _ _, fun x hx y hy => ?_⟩
    · exact hp.imp_of_mem fun {x y} hx hy hlt => by rw [mt x (ne x (hl x hx)), mt y (ne y (hl y hy))]; exact hlt
    · rw [List.mem_singleton.1 hy, mt x (ne x (hl x hx)), ma]
      have := (h.mo x (hl x hx)).2; omega
  have mem : ∀ x, x ∈ s.opn ++ [a] → x ∈ s.opn ∨ x = a := fun x hx => by simpa using hx
  refine ⟨h.rests, fun x hx => ?_, fun x hx => ?_, pw _ h.pn h.ps, pw _ (fun x hx => hx) h.os, fun x hx => ?_, fun i hi hio => ?_, fun x hx => ?_, fun x hx => ?_, .inr ?_, fun e => ?_, ?_, ?_⟩
  · have hx' : x ∈ s.path ++ [a] := hx
    rcases List.mem_append.1 hx' with hx' | hx'
    · exact List.mem_append_left _ (h.pn x hx')
    · exact List.mem_append_right _ hx'
  · rcases mem x hx with h1 | h1
    · exact h.on x h1
    · exact h1 ▸ ha
  · show 1 ≤ updN s.met a (s.count + 1) x ∧ updN s.met a (s.count + 1) x ≤ s.count + 1
    rcases mem x hx with h1 | h1
    · rw [mt x (ne x h1)]; have := h.mo x h1; omega
    · rw [h1, ma]; omega
  · have h1 : i ≠ a := fun e => hio (e ▸ List.mem_append_right _ (List.mem_singleton.2 rfl))
    show updN s.met a (s.count + 1) i = 0 ∨ updN s.met a (s.count + 1) i = grTop
    rw [mt i h1]; exact h.mx i hi fun e => hio (List.mem_append_left _ e)
  · show updN s.met a (s.count + 1) v0 ≤ updN s.low a (s.count + 1) x ∧ updN s.low a (s.count + 1) x ≤ updN s.met a (s.count + 1) x
    rw [mt v0 hv0a]
    rcases mem x hx with h1 | h1
    · rw [mt x (ne x h1), lw x (ne x h1)]; exact h.lo x h1
    · rw [h1, ma, la]; have := (h.mo v0 hv0).2; omega
  · show updN s.met a (s.count + 1) v0 ≤ updN s.met a (s.count + 1) x
    rw [mt v0 hv0a]
    rcases mem x hx with h1 | h1
    · rw [mt x (ne x h1)]; exact h.hd x h1
    · rw [h1, ma]; have := (h.mo v0 hv0).2; omega
  · exact head_snoc (h.hp.resolve_left hne)
  · have e' : s.path ++ [a] = [] := e
    simp at e'
  · have hu : unmet n s = unmet n (s.meet a) + 1 := countP_one (f := fun i => s.met i == 0) (g := fun i => updN s.met a (s.count + 1) i == 0) (r := a) (by simp [hz]) (by rw [ma]; simp) (fun i hi => by rw [mt i hi]) _ List.nodup_range (List.mem_range.2 ha)
    show s.count + 1 + unmet n (s.meet a) = n
    have := h.ct; omega
  · show s.rings + (s.opn ++ [a]).length ≤ s.count + 1
    have := h.rg; simp; omega
/-- A low number turned, among those that are no less than v0's. -/
theorem WF.setLow {n v0 r x : Nat} {s : SS} (h : WF n v0 s) (hx : s.met v0 ≤ x ∧ x ≤ s.low r) : WF n v0 { s with low := updN s.low r x } := by
  refine ⟨h.rests, h.pn, h.on, h.ps, h.os, h.mo, h.mx, fun y hy => ?_, h.hd, h.hp, h.em, h.ct, h.rg⟩
  show s.met v0 ≤ updN s.low r x y ∧ updN s.low r x y ≤ s.met y
  by_cases e : y = r
  · subst e; rw [updN_same]; have := h.lo y hy; omega
  · rw [updN_other _ _ e]; exact h.lo y hy
theorem WF.setRest {n v0 v : Nat} {l : List Nat} {s : SS} (h : WF n v0 s) (hl : ∀ x ∈ l, x < n) : WF n v0 { s with rest := fun i => if i = v then l else s.rest i } := by
  refine ⟨fun i hi x hx => ?_, h.pn, h.on, h.ps, h.os, h.mo, h.mx, h.lo, h.hd, h.hp, h.em, h.ct, h.rg⟩
  by_cases e : i = v
  · have hx' : x ∈ (if i = v then l else s.rest i) := hx
    rw [if_pos e] at hx'; exact hl x hx'
  · have hx' : x ∈ (if i = v then l else s.rest i) := hx
    rw [if_neg e] at hx'; exact h.rests i hi x hx'
/-- A node is left. -/
theorem WF.leave {n v0 v : Nat} {l : List Nat} {s : SS} (h : WF n v0 s) (hl : s.path = l ++ [v]) : WF n v0 (s.leave v) ∧ (s.leave v).path = l ∧ (s.low v ≠ s.met v → l ≠ []) ∧ (s.leave v).rest = s.rest := by
  have hvp : v ∈ s.path := by rw [hl]; simp
  have hvo := h.pn v hvp
  have hdl : s.path.dropLast = l := by rw [hl]; simp
  have hls : ∀ x ∈ l, s.met x < s.met v := fun x hx => by
    have := h.ps; rw [hl] at this
    exact (List.pairwise_append.1 this).2.2 x hx v (by simp)
  have hlp : l.Pairwise fun x y => s.met x < s.met y := by have := h.ps; rw [hl] at this; exact (List.pairwise_append.1 this).1
  have hlo : ∀ x ∈ l, x ∈ s.opn := fun x hx => h.pn x (by rw [hl]; exact List.mem_append_left _ hx)
  have hhd : l = [] ∨ l.head? = some v0 := by
    cases l with
    | nil => exact .inl rfl
    | cons a l =>
      right
      have := h.hp.resolve_left (by rw [hl]; simp)
      rw [hl] at this; exact this
  have hv0 : l = [] → v = v0 := fun e => by
    have := h.hp.resolve_left (by rw [hl]; simp)
    rw [hl, e] at this; simpa using this
  have hne : s.low v ≠ s.met v → l ≠ [] := fun h1 e => by
    have e2 := hv0 e
    have := h.lo v hvo
    rw [e2] at this h1
    omega
  by_cases heq : s.low v = s.met v
  · obtain ⟨a, b, hab⟩ := split_at hvo
    have hos := h.os
    rw [hab] at hos
    obtain ⟨ha, hb, hvb, hva, hdis⟩ := pw_append hos
    have ec : s.leave v = { s with path := l, opn := a, ring := fun i => if i = v ∨ i ∈ b then s.rings else s.ring i, met := fun i => if i = v ∨ i ∈ b then grTop else s.met i, rings := s.rings + 1 } := by
      unfold SS.leave
      rw [if_pos heq]
      show SS.close _ v = _
      rw [close_spec (s := { s with path := s.path.dropLast }) (a := a) (b := b) hab hvb, hdl]
    have kp : ∀ x ∈ a, ¬ (x = v ∨ x ∈ b) := fun x hx e => e.elim (fun e => hva (e ▸ hx)) (hdis x hx)
    have hla : ∀ x ∈ l, x ∈ a := fun x hx => by
      have h1 := hlo x hx
      rw [hab] at h1
      rcases List.mem_append.1 h1 with h1 | h1
      · exact h1
      · have h2 := hls x hx
        rcases List.mem_cons.1 h1 with e | h1
        · subst e; omega
        · have := hb x h1; omega
    have hso : ∀ x ∈ a, x ∈ s.opn := fun x hx => by rw [hab]; exact List.mem_append_left _ hx
    have hae : l = [] → a = [] := fun e => by
      have e2 := hv0 e
      cases a with
      | nil => rfl
      | cons x a =>
        have h1 := ha x (List.mem_cons_self ..)
        have h2 := h.hd x (hso x (List.mem_cons_self ..))
        rw [← e2] at h2; omega
    have mt : ∀ x ∈ a, (if x = v ∨ x ∈ b then grTop else s.met x) = s.met x := fun x hx => if_neg (kp x hx)
    have hap : a.Pairwise fun x y => s.met x < s.met y := (List.pairwise_append.1 hos).1
    rw [ec]
    refine ⟨⟨h.rests, hla, fun x hx => h.on x (hso x hx), ?_, ?_, fun x hx => ?_, fun i hi hia => ?_, fun x hx => ?_, fun x hx => ?_, hhd, hae, ?_, ?_⟩, rfl, hne, rfl⟩
    · exact hlp.imp_of_mem fun {x y} hx hy hlt => by show (if x = v ∨ x ∈ b then grTop else s.met x) < (if y = v ∨ y ∈ b then grTop else s.met y); rw [mt x (hla x hx), mt y (hla y hy)]; exact hlt
    · exact hap.imp_of_mem fun {x y} hx hy hlt => by show (if x = v ∨ x ∈ b then grTop else s.met x) < (if y = v ∨ y ∈ b then grTop else s.met y); rw [mt x hx, mt y hy]; exact hlt
    · show 1 ≤ (if x = v ∨ x ∈ b then grTop else s.met x) ∧ (if x = v ∨ x ∈ b then grTop else s.met x) ≤ s.count
      rw [mt x hx]; exact h.mo x (hso x hx)
    · show (if i = v ∨ i ∈ b then grTop else s.met i) = 0 ∨ (if i = v ∨ i ∈ b then grTop else s.met i) = grTop
      by_cases e : i = v ∨ i ∈ b
      · rw [if_pos e]; exact .inr rfl
      · rw [if_neg e]
        refine h.mx i hi fun ho => ?_
        rw [hab] at ho
        rcases List.mem_append.1 ho with ho | ho
        · exact hia ho
        · exact e (List.mem_cons.1 ho)
    · have hl0 : l ≠ [] := fun e => by rw [hae e] at hx; cases hx
      have hv0l : v0 ∈ l := by
        rcases hhd with e | e
        · exact absurd e hl0
        · cases l with
          | nil => exact absurd rfl hl0
          | cons y l => cases e; exact List.mem_cons_self ..
      show (if v0 = v ∨ v0 ∈ b then grTop else s.met v0) ≤ s.low x ∧ s.low x ≤ (if x = v ∨ x ∈ b then grTop else s.met x)
      rw [mt x hx, mt v0 (hla v0 hv0l)]; exact h.lo x (hso x hx)
    · have hl0 : l ≠ [] := fun e => by rw [hae e] at hx; cases hx
      have hv0l : v0 ∈ l := by
        rcases hhd with e | e
        · exact absurd e hl0
        · cases l with
          | nil => exact absurd rfl hl0
          | cons y l => cases e; exact List.mem_cons_self ..
      show (if v0 = v ∨ v0 ∈ b then grTop else s.met v0) ≤ (if x = v ∨ x ∈ b then grTop else s.met x)
      rw [mt x hx, mt v0 (hla v0 hv0l)]; exact h.hd x (hso x hx)
    · have hu : unmet n s = (List.range n).countP fun i => (if i = v ∨ i ∈ b then grTop else s.met i) == 0 := countP_same _ fun i _ => by
        by_cases e : i = v ∨ i ∈ b
        · rw [if_pos e]
          have h1 : i ∈ s.opn := by rw [hab]; exact List.mem_append_right _ (List.mem_cons.2 e)
          have := (h.mo i h1).1
          have h2 : (s.met i == 0) = false := by simp; omega
          rw [h2]; rfl
        · rw [if_neg e]
      show s.count + ((List.range n).countP fun i => (if i = v ∨ i ∈ b then grTop else s.met i) == 0) = n
      rw [← hu]; exact h.ct
    · show s.rings + 1 + a.length ≤ s.count
      have := h.rg; rw [hab] at this; simp at this; omega
  · have hl0 := hne heq
    obtain ⟨l2, u, hu⟩ : ∃ l2 u, l = l2 ++ [u] := ⟨l.dropLast, l.getLast hl0, (List.dropLast_concat_getLast hl0).symm⟩
    have ec : s.leave v = { s with path := l, low := updN s.low u (min (s.low u) (s.low v)) } := by
      unfold SS.leave
      rw [if_neg heq]
      show ({ s with path := s.path.dropLast, low := updN s.low (s.path.dropLast.getLastD 0) (min (s.low (s.path.dropLast.getLastD 0)) (s.low v)) } : SS) = _
      rw [hdl, hu, getLastD_snoc]
    have huo := hlo u (by rw [hu]; simp)
    have h1 := h.setLow (r := u) (x := min (s.low u) (s.low v)) ⟨by have := (h.lo u huo).1; have := (h.lo v hvo).1; omega, by omega⟩
    rw [ec]
    exact ⟨⟨h1.rests, fun x hx => hlo x hx, h1.on, hlp, h1.os, h1.mo, h1.mx, h1.lo, h1.hd, hhd, fun e => absurd e hl0, h1.ct, h1.rg⟩, rfl, hne, rfl⟩
theorem nodup_lenG {l R : List Nat} (hn : l.Nodup) (hs : ∀ i ∈ l, i ∈ R) : l.length ≤ R.length := by
  induction l generalizing R with
  | nil => exact Nat.zero_le _
  | cons a l ih =>
    have hp := List.perm_cons_erase (hs a (by simp))
    have hn' := List.nodup_cons.1 hn
    have := ih (R := R.erase a) hn'.2 fun j hj => (List.mem_erase_of_ne (fun e => hn'.1 (by rw [← e]; exact hj))).2 (hs j (List.mem_cons_of_mem _ hj))
    rw [hp.length_eq, List.length_cons, List.length_cons]; omega
theorem nodup_range_len {n : Nat} {l : List Nat} (hn : l.Nodup) (h : ∀ x ∈ l, x < n) : l.length ≤ n := by
  have := nodup_lenG hn (R := List.range n) fun x hx => List.mem_range.2 (h x hx)
  simpa using this
/-- Nothing is open. -/
structure Idle (n : Nat) (s : SS) : Prop where
  rests : ∀ i, i < n → ∀ x ∈ s.rest i, x < n
  path : s.path = []
  opn : s.opn = []
  mx : ∀ i, i < n → s.met i = 0 ∨ s.met i = grTop
  ct : s.count + unmet n s = n
  rg : s.rings ≤ s.count
theorem WF.idle {n v0 : Nat} {s : SS} (h : WF n v0 s) (e : s.path = []) : Idle n s := by
  have ho := h.em e
  exact ⟨h.rests, e, ho, fun i hi => h.mx i hi (by rw [ho]; simp), h.ct, by have := h.rg; rw [ho] at this; simpa using this⟩
theorem Idle.meet {n v : Nat} {s : SS} (h : Idle n s) (hv : v < n) (hz : s.met v = 0) : WF n v (s.meet v) := by
  have ma : updN s.met v (s.count + 1) v = s.count + 1 := updN_same ..
  have la : updN s.low v (s.count + 1) v = s.count + 1 := updN_same ..
  have ep : (s.meet v).path = [v] := by show s.path ++ [v] = [v]; rw [h.path]; rfl
  have eo : (s.meet v).opn = [v] := by show s.opn ++ [v] = [v]; rw [h.opn]; rfl
  have one : ∀ x, x ∈ (s.meet v).opn → x = v := fun x hx => by rw [eo] at hx; simpa using hx
  refine ⟨h.rests, fun x hx => by rw [ep] at hx; rw [eo]; exact hx, fun x hx => one x hx ▸ hv, by rw [ep]; exact List.pairwise_singleton _ _, by rw [eo]; exact List.pairwise_singleton _ _, fun x hx => ?_, fun i hi hio => ?_, fun x hx => ?_, fun x hx => ?_, .inr (by rw [ep]; rfl), (fun e => by rw [ep] at e; cases e), ?_, ?_⟩
  · rw [one x hx]
    show 1 ≤ updN s.met v (s.count + 1) v ∧ updN s.met v (s.count + 1) v ≤ s.count + 1
    rw [ma]; omega
  · have h1 : i ≠ v := fun e => hio (by rw [eo, e]; simp)
    show updN s.met v (s.count + 1) i = 0 ∨ updN s.met v (s.count + 1) i = grTop
    rw [updN_other _ _ h1]; exact h.mx i hi
  · rw [one x hx]
    show updN s.met v (s.count + 1) v ≤ updN s.low v (s.count + 1) v ∧ updN s.low v (s.count + 1) v ≤ updN s.met v (s.count + 1) v
    rw [ma, la]; omega
  · rw [one x hx]; exact Nat.le_refl _
  · have hu : unmet n s = unmet n (s.meet v) + 1 := countP_one (f := fun i => s.met i == 0) (g := fun i => updN s.met v (s.count + 1) i == 0) (r := v) (by simp [hz]) (by rw [ma]; simp) (fun i hi => by rw [updN_other _ _ hi]) _ List.nodup_range (List.mem_range.2 hv)
    show s.count + 1 + unmet n (s.meet v) = n
    have := h.ct; omega
  · rw [eo]
    show s.rings + 1 ≤ s.count + 1
    have := h.rg; omega
/-- So many steps. -/
def SS.run : Nat → SS → SS
  | 0, s => s
  | k + 1, s => SS.run k s.step
theorem run_step : ∀ (k : Nat) (s : SS), (SS.run k s).step = SS.run (k + 1) s
  | 0, _ => rfl
  | k + 1, s => run_step k s.step
/-- One step, where the way is l and v. -/
theorem step_end {s : SS} {l : List Nat} {v : Nat} (hl : s.path = l ++ [v]) (hr : s.rest v = []) : s.step = s.leave v := by
  unfold SS.step; rw [hl]; simp [hr]
theorem step_new {s : SS} {l r : List Nat} {v a : Nat} (hl : s.path = l ++ [v]) (hr : s.rest v = a :: r) (hz : s.met a = 0) : s.step = ({ s with rest := fun i => if i = v then r else s.rest i } : SS).meet a := by
  unfold SS.step; rw [hl]; simp [hr, hz]
theorem step_old {s : SS} {l r : List Nat} {v a : Nat} (hl : s.path = l ++ [v]) (hr : s.rest v = a :: r) (hz : s.met a ≠ 0) : s.step = { s with rest := fun i => if i = v then r else s.rest i, low := updN s.low v (min (s.low v) (s.met a)) } := by
  unfold SS.step; rw [hl]; simp [hr, hz]
theorem left_one {n v a : Nat} {r : List Nat} {s : SS} (hv : v < n) (hr : s.rest v = a :: r) : leftN n s = leftN n { s with rest := fun i => if i = v then r else s.rest i } + 1 :=
  sum_one (f := fun i => (s.rest i).length) (g := fun i => (if i = v then r else s.rest i).length) (r := v) (by simp [hr]) (fun i hi => by simp [hi]) _ List.nodup_range (List.mem_range.2 hv)
theorem le_sumG : ∀ {l : List Nat} {x : Nat}, x ∈ l → x ≤ l.sum
  | [], _, h => by cases h
  | a :: l, x, h => by
    rw [List.sum_cons]
    rcases List.mem_cons.1 h with rfl | h
    · omega
    · have := le_sumG h; omega
theorem rest_le {n i : Nat} (s : SS) (hi : i < n) : (s.rest i).length ≤ leftN n s := le_sumG (List.mem_map.2 ⟨i, List.mem_range.2 hi, rfl⟩)
theorem WF.new {n v0 v a : Nat} {l r : List Nat} {s : SS} (h : WF n v0 s) (hl : s.path = l ++ [v]) (hr : s.rest v = a :: r) (hz : s.met a = 0) : WF n v0 s.step := by
  have hvn := h.on v (h.pn v (by rw [hl]; simp))
  have hrs := h.rests v hvn
  rw [hr] at hrs
  rw [step_new hl hr hz]
  exact (h.setRest (v := v) (l := r) fun x hx => hrs x (List.mem_cons_of_mem _ hx)).meet (by show s.path ≠ []; rw [hl]; simp) (hrs a (List.mem_cons_self ..)) hz
theorem WF.old {n v0 v a : Nat} {l r : List Nat} {s : SS} (h : WF n v0 s) (hl : s.path = l ++ [v]) (hr : s.rest v = a :: r) (hz : s.met a ≠ 0) (hn : n < grTop) : WF n v0 s.step := by
  have hvo := h.pn v (by rw [hl]; simp)
  have hvn := h.on v hvo
  have hrs := h.rests v hvn
  rw [hr] at hrs
  have han := hrs a (List.mem_cons_self ..)
  have hma : s.met v0 ≤ s.met a := by
    by_cases hao : a ∈ s.opn
    · exact h.hd a hao
    · have h1 := (h.mx a han hao).resolve_left hz
      have h2 := (h.mo v0 (h.pn v0 (h.first (by rw [hl]; simp)))).2
      have := h.cn
      omega
  rw [step_old hl hr hz]
  exact (h.setRest (v := v) (l := r) fun x hx => hrs x (List.mem_cons_of_mem _ hx)).setLow (r := v) (x := min (s.low v) (s.met a)) ⟨by have := (h.lo v hvo).1; show s.met v0 ≤ _; omega, by show _ ≤ s.low v; omega⟩
end Go.Proofs.Ytlpifioneafciaa
