/- Code and calls on the small memory, and what they say of the world. -/
import Derived.Test.YtojlncopehjpiaaDoorSxN
namespace Go.Proofs.YtojlncopehjpiaaDoor.Sx

inductive Way where
  | normal
  | exit (id : Nat)
  | ret

def Way.toExit : Way → Exit
  | .normal => .normal
  | .exit id => .exit id
  | .ret => .ret

def rounds (body : Fr → St → Option (Way × Fr × St)) : Nat → Fr → St → Option (Way × Fr × St)
  | 0, _, _ => none
  | n + 1, f, s => match body f s with
    | some (.normal, f, s) => rounds body n f s
    | some (.exit i, f, s) => some (.exit i, f, s)
    | some (.ret, f, s) => some (.ret, f, s)
    | none => none

def code (P : Program) (cl : FuncId → Array Value → St → Option (Value × St)) (N : Nat) : Code → Fr → St → Option (Way × Fr × St)
  | .skip, f, s => some (.normal, f, s)
  | .label _, f, s => some (.normal, f, s)
  | .region _ ops d, f, s => match (bif d then drawn P cl ops f s else opers P cl ops ops.toList f s) with
    | some (f, s) => some (.normal, f, s)
    | none => none
  | .seq a b, f, s => match code P cl N a f s with
    | some (.normal, f, s) => code P cl N b f s
    | some (.exit i, f, s) => some (.exit i, f, s)
    | some (.ret, f, s) => some (.ret, f, s)
    | none => none
  | .cond c a b, f, s => match f.eval c with
    | .bool true => code P cl N a f s
    | .bool false => code P cl N b f s
    | _ => none
  | .block id b, f, s => match code P cl N b f s with
    | some (.normal, f, s) => some (.normal, f, s)
    | some (.exit i, f, s) => bif Nat.beq i id then some (.normal, f, s) else some (.exit i, f, s)
    | some (.ret, f, s) => some (.ret, f, s)
    | none => none
  | .loop b, f, s => rounds (code P cl N b) N f s
  | .exit id, f, s => some (.exit id, f, s)
  | .scope b, f, s => code P cl N b f s
  | .ret, f, s => some (.ret, f, s)
  | _, _, _ => none

def okCode (P : Program) (gl n : Nat) : Code → Bool
  | .region _ ops _ => ops.toList.all (okOper P gl n)
  | .seq a b => okCode P gl n a && okCode P gl n b
  | .cond c a b => okx gl c && okCode P gl n a && okCode P gl n b
  | .block _ b => okCode P gl n b
  | .loop b => okCode P gl n b
  | .scope b => okCode P gl n b
  | _ => true

def readRes (fn : Func) (f : Fr) : Option Value :=
  match fn.results.toList with
  | [.tmp t] => some (f.get t)
  | _ => none

section
variable {P : Program} {gl n : Nat} {cl : FuncId → Array Value → St → Option (Value × St)}

theorem ST.drew {ρ : Rho} {s : St} {w : World} (hz : RZ P ρ s w) : ST P ρ s w ρ s w.drew :=
  ⟨.refl _, ⟨hz.obj, hz.inj, hz.fresh, hz.lt, hz.roNext⟩, fun b _ hb e _ => ⟨b, hb, e⟩, fun _ _ _ => rfl, fun _ _ _ _ _ => ⟨rfl, rfl⟩, rfl, Nat.le_refl _, rfl, rfl, rfl⟩

theorem drawn_wp (hG : Good P) (hmix : P.follows .mixedOrders = true) (hcl : CallsOk P gl cl) {ops : Array Oper} (hops : ∀ (j : Nat) (p : Oper), ops[j]? = some p → okOper P gl n p = true) {id : Nat} {f f' : Fr} {s s' : St}
    (h : drawn P cl ops f s = some (f', s')) {ρ : Rho} {a : Act} {w : World} (hF : FR ρ gl n f a) (hz : RZ P ρ s w) (hm : s.next ≤ most) {Q : Exit → Act → World → Prop}
    (hQ : ∀ ρ' a' w', FR ρ' gl n f' a' → ST P ρ s w ρ' s' w' → s'.next ≤ most → Q .normal a' w') : (Code.region id ops true).wp P Q a w := by
  unfold drawn at h
  cases hk : okDraw ops with
  | false => rw [hk] at h; cases h
  | true =>
  rw [hk] at h
  simp only [cond_true] at h
  split at h
  · rename_i tr f1 s1 hrun
    cases hr : readsOk P cl ops tr s1 with
    | false => rw [hr] at h; cases h
    | true =>
    rw [hr] at h
    cases h
    obtain ⟨F, S, V, e1, e2, e3, e4, hT⟩ := runD_told ops.toList 0 f s tr _ _ rfl hrun
    have hlen : ops.toList.length = ops.size := Array.length_toList
    rw [hlen, Nat.zero_add] at e3 e4
    rw [hlen] at hT
    subst e1 e2 e3 e4
    have hsz : ops.size < most := by
      unfold okDraw at hk
      simp only [Bool.and_eq_true] at hk
      have := unblt hk.1.1.1
      simpa using this
    have hmk : ∀ j q, bit (masks ops.toList 0 .nil) j q = true → Bef ops j q := masks_bef ops hsz ops.toList 0 .nil rfl (fun j q h => by unfold bit at h; rw [get_nil] at h; simp at h)
    have hd := ST.drew hz
    refine wp_region_any hmix ?_
    refine inv_wp (V := V) hG hcl hops hF.small (okDraw_drawn hk) hmk (fun j o ho => ?_) (fun j hj => ?_) hr (ρ0 := ρ) (w0 := w.drew) hF.glob (fun ρ' a' w' h1 h2 h3 => hQ ρ' a' w' h1 (hd.trans h2) h3) ops.size _ a _ (by simp) ⟨by simp, fun i o hl => ?_, ?_, hF.size, hF.defers⟩
    · have hj := (Array.getElem?_eq_some_iff.1 ho).1
      have := hT.step j o hj (by rw [Nat.zero_add]; exact ho)
      simpa only [Nat.zero_add] using this
    · have := hT.tr j hj
      simpa only [Nat.zero_add] using this
    · by_cases hi : i < ops.size
      · simp [hi] at hl
      · simp [hi] at hl
    · have hno : ∀ i, (Array.replicate ops.size false).getD i false = false := fun i => by
        by_cases hi : i < ops.size
        · simp [hi]
        · simp [hi]
      obtain ⟨p, h1, h2, h3, h4⟩ := next_act ops ops.size 0 (by omega) (Nat.zero_le _)
      have hSp : S p = S 0 := by
        have := sconst hG hops (F := F) (S := S) (V := V) (cl := cl) (ops := ops) (fun j o ho => by
          have hj := (Array.getElem?_eq_some_iff.1 ho).1
          have := hT.step j o hj (by rw [Nat.zero_add]; exact ho)
          simpa only [Nat.zero_add] using this) p 0 (by omega) fun q o _ b c => h4 q o (Nat.zero_le _) (by omega) c
        simpa only [Nat.zero_add] using this
      refine ⟨p, h2, h3, fun i o hi ha => ?_, ρ, ?_, ?_, fun i o t hl => ?_, fun t _ => hF.tmp t⟩
      · rw [hno i]
        constructor
        · intro h; cases h
        · intro h; rw [h4 i o (Nat.zero_le _) h hi] at ha; cases ha
      · rw [hSp]; exact .refl hd.rz
      · rw [hSp]; exact hm
      · rw [hno i] at hl; cases hl
  · cases h

/-- what is told of a code -/
def CodeOk (P : Program) (gl n : Nat) (f : Fr) (s : St) (way : Way) (f' : Fr) (s' : St) (c : Code) : Prop :=
  ∀ (ρ : Rho) (a : Act) (w : World), FR ρ gl n f a → RZ P ρ s w → s.next ≤ most → ∀ Q : Exit → Act → World → Prop, (∀ ρ' a' w', FR ρ' gl n f' a' → ST P ρ s w ρ' s' w' → s'.next ≤ most → Q way.toExit a' w') → c.wp P Q a w

theorem rounds_ok {b : Code} {body : Fr → St → Option (Way × Fr × St)} (hb : ∀ f s way f' s', body f s = some (way, f', s') → CodeOk P gl n f s way f' s' b) :
    ∀ (N : Nat) (f : Fr) (s : St) (way : Way) (f' : Fr) (s' : St), rounds body N f s = some (way, f', s') → CodeOk P gl n f s way f' s' (.loop b) := by
  intro N f s way f' s' h ρ a w hF hz hm Q hQ fr k cs
  have key : ∀ (N : Nat) (f : Fr) (s : St), rounds body N f s = some (way, f', s') → ∀ (ρ1 : Rho) (a1 : Act) (w1 : World), FR ρ1 gl n f a1 → RZ P ρ1 s w1 → s.next ≤ most →
      (∀ ρ' a' w', FR ρ' gl n f' a' → ST P ρ1 s w1 ρ' s' w' → s'.next ≤ most → Q way.toExit a' w') →
      ∃ e a' w', Q e a' w' ∧ Arrives P (lone (fr.at a1 (.code b :: .inLoop b :: k)) cs w1) fr k cs e a' w' := by
    intro N
    induction N with
    | zero => intro f s h; cases h
    | succ N ih =>
      intro f s h ρ1 a1 w1 hF1 hz1 hm1 hQ1
      unfold rounds at h
      cases hbd : body f s with
      | none => rw [hbd] at h; cases h
      | some r =>
        obtain ⟨way1, f1, s1⟩ := r
        rw [hbd] at h
        have h1 := hb f s way1 f1 s1 hbd ρ1 a1 w1 hF1 hz1 hm1 (fun e a' w' => e = way1.toExit ∧ ∃ ρ', FR ρ' gl n f1 a' ∧ ST P ρ1 s w1 ρ' s1 w' ∧ s1.next ≤ most) (fun ρ' a' w' x y z => ⟨rfl, ρ', x, y, z⟩) fr (.inLoop b :: k) cs
        obtain ⟨e, a2, w2, ⟨rfl, ρ2, hF2, hS2, hm2⟩, harr⟩ := h1
        cases way1 with
        | normal =>
          obtain ⟨e, a3, w3, hq, harr3⟩ := ih f1 s1 h ρ2 a2 w2 hF2 hS2.rz hm2 fun ρ' a' w' x y z => hQ1 ρ' a' w' x (hS2.trans y) z
          exact ⟨e, a3, w3, hq, .of_steps (Steps.trans harr (.one step_inLoop)) harr3⟩
        | exit i =>
          cases h
          exact ⟨_, a2, w2, hQ1 ρ2 a2 w2 hF2 hS2 hm2, .pass (x := .inLoop b) rfl (fun _ _ => .inl (by simp [Way.toExit])) harr⟩
        | ret =>
          cases h
          exact ⟨_, a2, w2, hQ1 ρ2 a2 w2 hF2 hS2 hm2, .pass (x := .inLoop b) rfl (fun _ _ => .inl (by simp [Way.toExit])) harr⟩
  obtain ⟨e, a', w', hq, harr⟩ := key N f s h ρ a w hF hz hm hQ
  exact ⟨e, a', w', hq, .of_steps (.one step_loop) harr⟩

theorem code_ok (hG : Good P) (hmix : P.follows .mixedOrders = true) (hcl : CallsOk P gl cl) (N : Nat) : ∀ (c : Code), okCode P gl n c = true → ∀ (f : Fr) (s : St) (way : Way) (f' : Fr) (s' : St), code P cl N c f s = some (way, f', s') → CodeOk P gl n f s way f' s' c := by
  intro c
  induction c with
  | skip => intro _ f s way f' s' h ρ a w hF hz hm Q hQ; cases h; exact wp_skip (hQ ρ a w hF (.refl hz) hm)
  | label l => intro _ f s way f' s' h ρ a w hF hz hm Q hQ; cases h; exact wp_label (hQ ρ a w hF (.refl hz) hm)
  | exit id => intro _ f s way f' s' h ρ a w hF hz hm Q hQ; cases h; exact wp_exit (hQ ρ a w hF (.refl hz) hm)
  | ret => intro _ f s way f' s' h ρ a w hF hz hm Q hQ; cases h; exact wp_ret (hQ ρ a w hF (.refl hz) hm)
  | region id ops d =>
    intro hok f s way f' s' h ρ a w hF hz hm Q hQ
    have hops : ∀ (j : Nat) (p : Oper), ops[j]? = some p → okOper P gl n p = true := fun j p hp => List.all_eq_true.1 hok p (Array.mem_toList_iff.2 (Array.mem_of_getElem? hp))
    unfold code at h
    cases d with
    | true =>
      simp only [cond_true] at h
      cases hd : drawn P cl ops f s with
      | none => rw [hd] at h; cases h
      | some r =>
        obtain ⟨f1, s1⟩ := r
        rw [hd] at h; cases h
        exact drawn_wp hG hmix hcl hops hd hF hz hm hQ
    | false =>
      simp only [cond_false] at h
      cases hd : opers P cl ops ops.toList f s with
      | none => rw [hd] at h; cases h
      | some r =>
        obtain ⟨f1, s1⟩ := r
        rw [hd] at h; cases h
        refine wp_region ?_
        have := opers_wp hG hcl hops (Q := Q) ops.toList 0 f s f' s' rfl hd ρ a w hF hz hm hQ
        rw [List.range_eq_range']
        simpa using this
  | seq x y ihx ihy =>
    intro hok f s way f' s' h ρ a w hF hz hm Q hQ
    unfold okCode at hok
    simp only [Bool.and_eq_true] at hok
    unfold code at h
    cases hx : code P cl N x f s with
    | none => rw [hx] at h; cases h
    | some r =>
      obtain ⟨way1, f1, s1⟩ := r
      rw [hx] at h
      refine wp_seq ?_
      refine ihx hok.1 f s way1 f1 s1 hx ρ a w hF hz hm _ fun ρ1 a1 w1 hF1 hS1 hm1 => ?_
      cases way1 with
      | normal => exact ihy hok.2 f1 s1 way f' s' h ρ1 a1 w1 hF1 hS1.rz hm1 Q fun ρ2 a2 w2 hF2 hS2 hm2 => hQ ρ2 a2 w2 hF2 (hS1.trans hS2) hm2
      | exit i => cases h; exact hQ ρ1 a1 w1 hF1 hS1 hm1
      | ret => cases h; exact hQ ρ1 a1 w1 hF1 hS1 hm1
  | cond c x y ihx ihy =>
    intro hok f s way f' s' h ρ a w hF hz hm Q hQ
    unfold okCode at hok
    simp only [Bool.and_eq_true] at hok
    have hc := hF.eval hok.1.1
    unfold code at h
    split at h
    · rename_i hv
      rw [hv] at hc
      generalize hce : a.eval c = cv at hc
      cases hc
      exact wp_cond_true hce (ihx hok.1.2 f s way f' s' h ρ a w hF hz hm Q hQ)
    · rename_i hv
      rw [hv] at hc
      generalize hce : a.eval c = cv at hc
      cases hc
      exact wp_cond_false hce (ihy hok.2 f s way f' s' h ρ a w hF hz hm Q hQ)
    · cases h
  | block id x ih =>
    intro hok f s way f' s' h ρ a w hF hz hm Q hQ
    unfold code at h
    cases hx : code P cl N x f s with
    | none => rw [hx] at h; cases h
    | some r =>
      obtain ⟨way1, f1, s1⟩ := r
      rw [hx] at h
      refine wp_block ?_
      refine ih hok f s way1 f1 s1 hx ρ a w hF hz hm _ fun ρ1 a1 w1 hF1 hS1 hm1 => ?_
      cases way1 with
      | normal => cases h; exact hQ ρ1 a1 w1 hF1 hS1 hm1
      | exit i =>
        dsimp only at h
        cases hi : Nat.beq i id with
        | true =>
          rw [hi] at h; cases h
          have := Nat.eq_of_beq_eq_true hi
          simp only [Way.toExit, Exit.inBlock, this, if_true]
          exact hQ ρ1 a1 w1 hF1 hS1 hm1
        | false =>
          rw [hi] at h; cases h
          have : ¬ i = id := fun e => by subst e; simp at hi
          simp only [Way.toExit, Exit.inBlock, this, if_false]
          exact hQ ρ1 a1 w1 hF1 hS1 hm1
      | ret => cases h; exact hQ ρ1 a1 w1 hF1 hS1 hm1
  | loop x ih =>
    intro hok f s way f' s' h
    exact rounds_ok (fun f s way f' s' hb => ih hok f s way f' s' hb) N f s way f' s' h
  | scope x ih =>
    intro hok f s way f' s' h ρ a w hF hz hm Q hQ
    refine wp_scope_straight ?_
    refine ih hok f s way f' s' h ρ a w hF hz hm _ fun ρ1 a1 w1 hF1 hS1 hm1 => ?_
    have := hQ ρ1 a1 w1 hF1 hS1 hm1
    cases way <;> exact this
  | _ => intro _ f s way f' s' h; cases h
end
end Go.Proofs.YtojlncopehjpiaaDoor.Sx
