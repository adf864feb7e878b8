/- Loops over functions: their records in the world, and the marks that they leave. -/
import Derived.Test.YtdcjkglhhmnjiaaGreatDoorSyW
import Derived.RangeFuncLeaves
namespace Go.Proofs.YtdcjkglhhmnjiaaGreatDoor.Sx
noncomputable section
section
variable {P : Program}

theorem RZ.world {ρ : Rho} {s : St} {w w' : World} (hz : RZ P ρ s w)
    (hk : ∀ c, c < w.heap.size → ((∃ b, (s.obj b).isSome ∧ ρ.at_ b = some c) ∨ (∃ cs e, w.heap[c]? = some (.cells cs e (0, 0)))) → w'.heap[c]? = w.heap[c]?) (hsz : w.heap.size ≤ w'.heap.size) : RZ P ρ s w' := by
  refine ⟨fun b o h => ?_, hz.inj, hz.fresh, fun b c e => Nat.lt_of_lt_of_le (hz.lt b c e) hsz, hz.roNext, fun b c h1 h2 e => ?_, hz.apart⟩
  · obtain ⟨c, o', e, h1, h2⟩ := hz.obj b o h
    exact ⟨c, o', e, by rw [hk c (hz.lt _ _ e) (.inl ⟨b, by simp [h], e⟩)]; exact h1, h2⟩
  · obtain ⟨⟨cs, e1, h3⟩, h4⟩ := hz.sen b c h1 h2 e
    exact ⟨⟨cs, e1, by rw [hk c (hz.lt _ _ e) (.inr ⟨cs, e1, h3⟩)]; exact h3⟩, h4⟩

/-- a block that the small memory does not know comes to be -/
theorem ST.aside {ρ : Rho} {s : St} {w : World} (hz : RZ P ρ s w) (o : Obj) : ST P ρ s w ρ s { w with heap := w.heap.push o } := by
  have hk : ∀ c, c < w.heap.size → (w.heap.push o)[c]? = w.heap[c]? := fun c hc => by rw [Array.getElem?_push, if_neg (by omega)]
  have hsz : w.heap.size ≤ (w.heap.push o).size := by simp
  exact ⟨.refl _, hz.world (fun c hc _ => hk c hc) hsz, fun b _ hb e _ => ⟨b, hb, e⟩, fun c hc _ => hk c hc, fun b c _ _ e => ⟨rfl, hk c (hz.lt _ _ e)⟩, rfl, hsz, rfl, rfl, rfl, Nat.le_refl _, fun _ _ => rfl, rfl⟩

/-- a block that the small memory does not know, and that was made since, is turned -/
theorem ST.shut {ρ ρ' : Rho} {s s' : St} {w w1 : World} (h : ST P ρ s w ρ' s' w1) {r : Nat} (hr : ∃ x, w1.heap[r]? = some (.deferred x)) (hn : ∀ b, (s'.obj b).isSome → ρ'.at_ b ≠ some r) (hB : w.heap.size ≤ r) (o : Obj) :
    ST P ρ s w ρ' s' { w1 with heap := w1.heap.setIfInBounds r o } := by
  have hk : ∀ c, c ≠ r → (w1.heap.setIfInBounds r o)[c]? = w1.heap[c]? := fun c hc => by rw [Array.getElem?_setIfInBounds, if_neg (Ne.symm hc)]
  obtain ⟨x, hx⟩ := hr
  refine ⟨h.le, h.rz.world (fun c _ hc => hk c fun e => ?_) (by simp), h.own, fun c hc hl => (hk c (by omega)).trans (h.kept c hc hl), fun b c hb hs e => ?_, h.ro, by simp; exact h.size, h.os, h.tape, h.output, h.grow, h.old, h.lo⟩
  · subst e
    rcases hc with ⟨b, h1, h2⟩ | ⟨cs, e1, h1⟩
    · exact hn b h1 h2
    · rw [hx] at h1; cases h1
  · obtain ⟨h1, h2⟩ := h.fixed b c hb hs e
    refine ⟨h1, (hk c fun ec => ?_).trans h2⟩
    subst ec
    exact hn b (by rw [h1]; exact hs) (h.le _ _ e).1

/-- the mark of a loop's block among an activation's deferred calls -/
def markOf (r : Nat) : Deferred := { target := .collected r, args := #[] }

/-- marks alone stand among the deferred calls, of blocks that were made from B on; nothing is in them; the small memory doesn't know them -/
inductive Marks (B : Nat) (ρ : Rho) (s : St) (w : World) : List Deferred → Prop where
  | nil : Marks B ρ s w []
  | cons {r : Nat} {D : List Deferred} (hB : B ≤ r) (hw : w.heap[r]? = some (.deferred (some []))) (hn : ∀ b, (s.obj b).isSome → ρ.at_ b ≠ some r) (ha : markOf r ∉ D) (h : Marks B ρ s w D) : Marks B ρ s w (markOf r :: D)

theorem Marks.next {B : Nat} {ρ ρ' : Rho} {s s' : St} {w w' : World} {D : List Deferred} (h : Marks B ρ s w D) (hS : ST P ρ s w ρ' s' w') : Marks B ρ' s' w' D := by
  induction h with
  | nil => exact .nil
  | cons hB hw hn ha _ ih =>
    have hlt := (Array.getElem?_eq_some_iff.1 hw).1
    refine .cons hB ((hS.kept _ hlt hn).trans hw) (fun b hb e => ?_) ha ih
    obtain ⟨b0, h0, e0⟩ := hS.own b _ hb e hlt
    exact hn b0 h0 e0

theorem Marks.lt {B : Nat} {ρ : Rho} {s : St} {w : World} {D : List Deferred} (h : Marks B ρ s w D) {r : Nat} (hr : markOf r ∈ D) : r < w.heap.size := by
  induction h with
  | nil => cases hr
  | cons hB hw hn ha _ ih =>
    rcases List.mem_cons.1 hr with e | hr
    · cases e; exact (Array.getElem?_eq_some_iff.1 hw).1
    · exact ih hr

theorem Marks.shut {B : Nat} {ρ : Rho} {s : St} {w : World} {D : List Deferred} (h : Marks B ρ s w D) {r : Nat} (hr : markOf r ∉ D) (o : Obj) : Marks B ρ s { w with heap := w.heap.setIfInBounds r o } D := by
  induction h with
  | nil => exact .nil
  | @cons q D hB hw hn ha _ ih =>
    have hne : q ≠ r := fun e => by subst e; exact hr (by simp)
    refine .cons hB ?_ hn ha (ih fun h => hr (List.mem_cons_of_mem _ h))
    show (w.heap.setIfInBounds r o)[q]? = _
    rw [Array.getElem?_setIfInBounds, if_neg (Ne.symm hne)]; exact hw

theorem take_run {w : World} {r : Nat} (h : w.heap[r]? = some (.deferred (some []))) : (Instr.takeDeferred r).run P w = .ok [] { w with heap := w.heap.setIfInBounds r (.deferred none) } := by
  simp [Instr.takeDeferred, getObj, setObj, Sem.run, h]

/-- an activation with marks leaves -/
theorem leaves_marks {ρ ρ' : Rho} {s s' : St} {w : World} {fn : Func} {tmps : Array Value} {E : Ending → World → Prop} :
    ∀ (D : List Deferred) (w1 : World), ST P ρ s w ρ' s' w1 → Marks w.heap.size ρ' s' w1 D → (∀ w2, ST P ρ s w ρ' s' w2 → LeavesIn Fence.wide 0 P fn tmps E [] .returning w2) → LeavesInM Fence.wide 0 P fn tmps E D .returning w1 := by
  intro D
  induction D with
  | nil => intro w1 hS _ h; exact h w1 hS
  | cons d D ih =>
    intro w1 hS hM h
    cases hM with
    | @cons r _ hB hw hn ha hM =>
    refine ⟨by simp, .inl ⟨r, _, rfl, take_run hw, ih _ (hS.shut ⟨_, hw⟩ hn hB _) (hM.shut ha _) h⟩⟩

theorem yield_obj {ρ : Rho} {s : St} {w : World} (hz : RZ P ρ s w) {l : Nat} {r : Loop} (h : s.obj l = some (.loop r)) : ∃ l' r', ρ.at_ l = some l' ∧ w.heap[l']? = some (.loop r') ∧ OR ρ (.loop r) (.loop r') := by
  obtain ⟨c, o', e, h1, h2, _⟩ := hz.obj l _ h
  cases h2 with
  | loop a b c d e1 f g => exact ⟨_, _, e, h1, .loop a b c d e1 f g⟩

/-- a loop's record is turned -/
theorem ST.loop {ρ : Rho} {s : St} {w : World} (hz : RZ P ρ s w) (hm : s.next ≤ most) {l l' : Nat} (hb : (s.obj l).isSome) (hl : ρ.at_ l = some l') (hro : s.ro ≤ l) {r r' : Loop} (ho : OR ρ (.loop r) (.loop r')) :
    ST P ρ s w ρ (s.put l (.loop r)) { w with heap := w.heap.setIfInBounds l' (.loop r') } := by
  have hlt := hz.lt _ _ hl
  refine .put hz hm hb hl hro ho (by simp [hlt]) (fun cs e f h => by cases h) (fun k hk => ?_) (by simp) rfl rfl rfl
  show (w.heap.setIfInBounds l' (.loop r'))[k]? = _
  rw [Array.getElem?_setIfInBounds, if_neg (Ne.symm hk)]

theorem begin_run {w : World} {l : Nat} {r : Loop} (h : w.heap[l]? = some (.loop r)) (hs : r.state = .ready) : (Instr.beginRound l).run P w = .ok () { w with heap := w.heap.setIfInBounds l (.loop { r with state := .busy }) } := by
  simp [Instr.beginRound, Instr.getLoop, getObj, setObj, Sem.run, h, hs]
theorem end_run {w : World} {l : Nat} {r : Loop} (h : w.heap[l]? = some (.loop r)) (j : Option Code) : (Instr.endRound l j).run P w = .ok (.bool j.isNone) { w with heap := w.heap.setIfInBounds l (.loop { r with state := if j.isNone then .ready else .done, pending := j }) } := by
  simp [Instr.endRound, Instr.getLoop, getObj, setObj, Sem.run, h]
theorem over_run {w : World} {l : Nat} {r : Loop} (h : w.heap[l]? = some (.loop r)) (hs : r.state ≠ .busy) : (Instr.endLoop l).run P w = .ok r.pending { w with heap := w.heap.setIfInBounds l (.loop { r with state := .exhausted }) } := by
  simp [Instr.endLoop, Instr.getLoop, getObj, setObj, Sem.run, h, hs]
theorem enter_none {w : World} {fn : FuncId} {tmps : Array Value} {ps : Array Tmp} {a b : Code} : (Instr.enterLoop fn tmps ps a b none).run P w = .ok (w.heap.size + 1, [markOf w.heap.size])
    { w with heap := (w.heap.push (.deferred (some []))).push (.loop { state := .ready, pending := none, fn, tmps, params := ps, assign := a, body := b, defers := w.heap.size }) } := by
  simp [Instr.enterLoop, newObj, Sem.run, markOf]; rfl
theorem enter_some {w : World} {fn : FuncId} {tmps : Array Value} {ps : Array Tmp} {a b : Code} {l : Nat} {r : Loop} (h : w.heap[l]? = some (.loop r)) : (Instr.enterLoop fn tmps ps a b (some l)).run P w = .ok (w.heap.size, [])
    { w with heap := w.heap.push (.loop { state := .ready, pending := none, fn, tmps, params := ps, assign := a, body := b, defers := r.defers }) } := by
  simp [Instr.enterLoop, Instr.getLoop, getObj, newObj, Sem.run, h]
end
end
end Go.Proofs.YtdcjkglhhmnjiaaGreatDoor.Sx
