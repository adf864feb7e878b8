/- A run whose one step is a string put at the head of a row. -/
import Derived.Test.YtdcjkglhhmnjiaaGreatDoorSyIns
namespace Go.Proofs.YtdcjkglhhmnjiaaGreatDoor
open Go.Shelf Go.RowKit
namespace Sx
noncomputable section
def stepI (P : Program) (gl N : Nat) (cl : Cl) (g : FuncId) (args : Array Value) (s : St) : Option (Value × St) :=
  match P.funcs[g]? with
  | some fn => match fn.body with
    | some c => bif okCode P gl fn.ntmps c && (Nat.ble args.toList.length fn.ntmps && Nat.ble fn.ntmps most) then
        match code P cl fn.ntmps none N c (params 0 args.toList .nil) s with
        | some (.normal, f, s') => match readRes' P fn f s' with
          | some v => some (v, s')
          | none => none
        | some (.ret, f, s') => match readRes' P fn f s' with
          | some v => some (v, s')
          | none => none
        | _ => none
      else none
    | none => none
  | none => none
def callI (P : Program) (I : FuncId) (E : TypeId) (gl N : Nat) : Nat → Bool → FuncId → Array Value → St → Option (Value × St)
  | 0, _, _, _, _ => none
  | k + 1, false, l, args, s => round P gl (callI P I E gl N k) N l args s
  | k + 1, true, g, args, s => bif Nat.beq g I then (bif told args then stepI P gl N (callI P I E gl N k) g args s else insA E args s) else stepI P gl N (callI P I E gl N k) g args s

theorem step_ok {P : Program} {gl : Nat} (hG : Good P) (hmix : P.follows .mixedOrders = true) (N : Nat) {cl : Cl} (hcl : CallsOk P gl cl) {g : FuncId} {args : Array Value} {s : St} {v : Value} {s' : St} (h : stepI P gl N cl g args s = some (v, s'))
    {ρ : Rho} {w : World} {args' : Array Value} (hargs : VsR ρ args args') (hz : RZ P ρ s w) (hm : s.next ≤ most) (hgl : ∀ g, g < gl → ρ.at_ g = some g ∧ ρ.off g = 0) :
    Calls P g args' w fun e w' => ∃ v' ρ', e = .returned v' ∧ VR ρ' v v' ∧ ST P ρ s w ρ' s' w' ∧ s'.next ≤ most := by
  unfold stepI at h
  cases hf : P.funcs[g]? with
  | none => rw [hf] at h; cases h
  | some fn =>
  rw [hf] at h
  dsimp only at h
  cases hb : fn.body with
  | none => rw [hb] at h; cases h
  | some c =>
  rw [hb] at h
  dsimp only at h
  cases hsz : (okCode P gl fn.ntmps c && (Nat.ble args.toList.length fn.ntmps && Nat.ble fn.ntmps most)) with
  | false => rw [hsz] at h; cases h
  | true =>
  rw [hsz] at h
  simp only [cond_true] at h
  simp only [Bool.and_eq_true, Nat.ble_eq] at hsz
  obtain ⟨hokc, g1, g2⟩ := hsz
  have hlen : args.toList.length = args'.size := by rw [← hargs.1]; simp
  have hF : FR ρ gl fn.ntmps [] (params 0 args.toList .nil) { tmps := args' ++ Array.replicate (fn.ntmps - args'.size) undef, defers := [] } := by
    refine ⟨fun t => ?_, by simp; omega, rfl, hgl, g2⟩
    rw [params_get args.toList 0 .nil t (by omega)]
    simp only [Nat.zero_le, Nat.zero_add, true_and, Nat.sub_zero]
    by_cases ht : t < args.toList.length
    · rw [if_pos ht]
      have e1 : (args' ++ Array.replicate (fn.ntmps - args'.size) undef).getD t undef = args'[t]'(by omega) := by
        rw [Array.getD_eq_getD_getElem?, Array.getElem?_append_left (by omega), Array.getElem?_eq_getElem (by omega)]; rfl
      rw [e1]
      have e2 : args.toList[t]? = some (args[t]'(by simpa using ht)) := by simp at ht ⊢
      rw [e2]
      exact hargs.2 t _ _ (Array.getElem?_eq_getElem _) (Array.getElem?_eq_getElem _)
    · rw [if_neg ht]
      have e1 : (args' ++ Array.replicate (fn.ntmps - args'.size) undef).getD t undef = undef := by
        rw [Array.getD_eq_getD_getElem?, Array.getElem?_append_right (by omega)]
        rw [Array.getElem?_replicate]
        split <;> rfl
      rw [e1]
      have : Fr.get (.nil : Fr) t = undef := by unfold Fr.get; rw [get_nil]; rfl
      rw [this]
      exact VR_undef ρ
  have fin : ∀ (way : Way) (f : Fr) (s1 : St), (way = .normal ∨ way = .ret) → code P (cl) fn.ntmps none N c (params 0 args.toList .nil) s = some (way, f, s1) → readRes' P fn f s1 = some v → s1 = s' →
      Calls P g args' w fun e w' => ∃ v' ρ', e = .returned v' ∧ VR ρ' v v' ∧ ST P ρ s w ρ' s' w' ∧ s'.next ≤ most := by
    intro way f s1 hway hc hr hs
    subst hs
    refine callsIn_wide.1 (callsIn_of_wp_marks (F := Fence.wide) (n := 0) hf hb trivial ?_)
    refine code_ok hG hmix hcl none N c hokc _ s way f s1 hc w.heap.size none [] ρ _ w ⟨hF, hz, hm, .inl ⟨rfl, rfl⟩, .nil, Nat.le_refl _⟩ _ fun D1 ρ1 a1 w1 hH1 hS1 => ?_
    have hlv : LeavesInM Fence.wide 0 P fn a1.tmps (fun e w' => ∃ v' ρ', e = .returned v' ∧ VR ρ' v v' ∧ ST P ρ s w ρ' s1 w' ∧ s1.next ≤ most) a1.defers .returning w1 := by
      rw [hH1.fr.defers]
      refine leaves_marks D1 w1 hS1 hH1.marks fun w2 hS2 => ?_
      obtain ⟨ρ2, v', h1, h2, h3⟩ := readRes_run (P := P) hH1.fr hS2.rz hH1.small hr
      exact ⟨v', h1, v', ρ2, rfl, h2, hS2.trans h3, hH1.small⟩
    rcases hway with rfl | rfl
    · exact hlv
    · exact hlv
  split at h
  · rename_i f s1 hc
    split at h
    · rename_i v1 hr; cases h; exact fin .normal f _ (.inl rfl) hc hr rfl
    · cases h
  · rename_i f s1 hc
    split at h
    · rename_i v1 hr; cases h; exact fin .ret f _ (.inr rfl) hc hr rfl
    · cases h
  · cases h

theorem callI_ok {P : Program} {R : Ren} (L : Lays2.n22 P R) {I : FuncId} {E : TypeId} (hI : I = R.f 22) (hE : E = R.t 9) {gl : Nat} (hG : Good P) (hmix : P.follows .mixedOrders = true) (N : Nat) : ∀ k, CallsOk P gl (callI P I E gl N k) := by
  intro k
  induction k with
  | zero => exact ⟨fun g args s v s' h => by (unfold callI at h; cases h), fun l args s v s' h => by (unfold callI at h; cases h)⟩
  | succ k ih =>
    refine ⟨?_, fun l args s v s' h ρ w args' l' hl hargs hz hm hgl => round_ok hG hmix ih N (by unfold callI at h; exact h) hl hargs hz hm hgl⟩
    intro g args s v s' h ρ w args' hargs hz hm hgl
    unfold callI at h
    cases hgi : Nat.beq g I with
    | false => rw [hgi] at h; exact step_ok hG hmix N ih h hargs hz hm hgl
    | true =>
      rw [hgi] at h
      simp only [cond_true] at h
      cases ht : told args with
      | true => rw [ht] at h; exact step_ok hG hmix N ih h hargs hz hm hgl
      | false =>
        rw [ht] at h
        simp only [cond_false] at h
        obtain rfl : g = R.f 22 := (Nat.eq_of_beq_eq_true hgi).trans hI
        subst hE
        exact insA_ok L h hargs hz hm

theorem law_of_yesI {P : Program} {gl : Nat} {T : TypeId} {L : List Sen} {W : World} {cl : Cl} (hcl : CallsOk P gl cl) (h : Lies gl T L W) {g : FuncId} {args args' : Array Value}
    (hargs : ∀ ρ, VsR ρ args args') (hy : yes (cl true g args (st0 T L)) = true) : Calls P g args' W fun e w' => e = .returned (.bool true) ∧ Below W.heap.size W w' := by
  cases hc : cl true g args (st0 T L) with
  | none => rw [hc] at hy; cases hy
  | some r =>
    obtain ⟨v, s'⟩ := r
    rw [hc] at hy
    have hv : v = .bool true := by
      unfold yes at hy
      split at hy
      · rename_i h; cases h; rfl
      · cases hy
    subst hv
    have hz := lies_rz (P := P) h
    have hs := h.small
    refine (hcl.fn g args _ _ s' hc (rho0 gl L) W args' (hargs _) hz (by simp only [st0, most]; omega) (fun g hg => ⟨by simp only [rho0]; rw [if_pos (by omega), if_pos hg], by simp only [rho0]; rw [if_pos (by omega)]⟩)).mono ?_
    rintro e w' ⟨v', ρ', rfl, hv, hS, _⟩
    cases hv
    refine ⟨rfl, hS.os, hS.tape, hS.output, hS.size, fun c hcl => ?_⟩
    by_cases hx : ∃ b, ((st0 T L).obj b).isSome ∧ (rho0 gl L).at_ b = some c
    · obtain ⟨b, hb, e⟩ := hx
      refine (hS.fixed b c ?_ hb e).2
      obtain ⟨o, ho⟩ := Option.isSome_iff_exists.1 hb
      exact some_lt hz ho
    · exact hS.kept c hcl fun b hb e => hx ⟨b, hb, e⟩
end
end Sx
end Go.Proofs.YtdcjkglhhmnjiaaGreatDoor
