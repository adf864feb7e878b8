/- Slices, equality, append on memories that are the same but for their blocks' numbers. -/
import Derived.Test.YtdcjkglhhmnjiaaGreatDoorSyD
import Derived.Laws.Entries
import Derived.Laws.AppendOwn
namespace Go.Proofs.YtdcjkglhhmnjiaaGreatDoor.Sx
noncomputable section

/-- a value that holds no address, and is one number, one text, one truth -/
def flat : Value → Bool
  | .bool _ => true
  | .int _ _ => true
  | .string _ => true
  | _ => false

theorem flat_eq {ρ : Rho} {v v' : Value} (h : VR ρ v v') (hf : flat v = true) : v' = v := by
  cases h <;> first | rfl | cases hf

/-- a bound: none, or a number from 0 on -/
def natOf : Option Value → Option (Option Nat)
  | none => some none
  | some (.int _ (.ofNat n)) => some (some n)
  | _ => none

/-- one bound as another one -/
def BR (ρ : Rho) : Option Value → Option Value → Prop
  | none, none => True
  | some v, some v' => VR ρ v v'
  | _, _ => False

theorem natOf_eq {ρ : Rho} {x x' : Option Value} {n : Option Nat} (h : BR ρ x x') (hn : natOf x = some n) :
    (n = none ∧ x = none ∧ x' = none) ∨ ∃ k m, n = some m ∧ x = some (.int k (m : Int)) ∧ x' = some (.int k (m : Int)) := by
  cases x with
  | none => cases x' with
    | none => simp [natOf] at hn; exact .inl ⟨hn.symm, rfl, rfl⟩
    | some => exact h.elim
  | some v => cases x' with
    | none => exact h.elim
    | some v' =>
      have h' : VR ρ v v' := h
      cases h' with
      | int k i => cases i with
        | ofNat m => simp [natOf] at hn; exact .inr ⟨k, m, hn.symm, rfl, rfl⟩
        | negSucc m => simp [natOf] at hn
      | _ => simp [natOf] at hn

/-- a slice of a slice, of a text -/
def sliceA (P : Program) (t : TypeId) (x : Value) (lo hi mx : Option Value) : Option Value :=
  match P.underlying t with
  | some (.slice e) => match x, natOf lo, natOf hi, natOf mx, P.info? e with
    | .slice a n c, some lo, some hi, some mx, some i =>
      let known := Nat.blt c most
      let C := bif known then c else n
      let l := lo.getD 0
      let h := hi.getD n
      let m := mx.getD C
      bif Nat.ble l h && Nat.ble h m && Nat.ble m C && Nat.blt n most && (mx.isNone || hi.isSome) && (Nat.ble c unk || mx.isNone) then
        (bif known || (mx.isSome && a.isSome) then some (.slice (bif Nat.beq m l then a else a.map (·.add (l * i.size))) (h - l) (m - l))
         else bif (Nat.beq l 0 || Nat.blt l h) && Nat.ble (unk - c + l) most && a.isSome && Nat.ble c unk then some (.slice (a.map (·.add (l * i.size))) (h - l) (c - l))
         else bif Nat.beq l h && a.isSome then some (.slice a 0 (unk + 1))
         else none)
      else none
    | _, _, _, _, _ => none
  | some .string => match x, natOf lo, natOf hi, mx with
    | .string s, some lo, some hi, none =>
      let l := lo.getD 0
      let h := hi.getD s.size
      bif Nat.ble l h && Nat.ble h s.size then some (.string (s.extract l h)) else none
    | _, _, _, _ => none
  | _ => none

section
variable {P : Program} {w : World}

theorem run_bounds3 (is : Bool) (len cap : Nat) {lo hi mx : Option Value} {l h m : Option Nat} (h1 : (l = none ∧ lo = none) ∨ ∃ k n, l = some n ∧ lo = some (.int k (n : Int)))
    (h2 : (h = none ∧ hi = none) ∨ ∃ k n, h = some n ∧ hi = some (.int k (n : Int))) (h3 : (m = none ∧ mx = none) ∨ ∃ k n, m = some n ∧ mx = some (.int k (n : Int)))
    (a : l.getD 0 ≤ h.getD len) (b : h.getD len ≤ m.getD cap) (c : m.getD cap ≤ cap) (d : m = none ∨ h.isSome) :
    (Instr.sliceBounds is len cap lo hi mx).run P w = .ok (l.getD 0, h.getD len, m.getD cap) w := by
  rcases h1 with ⟨rfl, rfl⟩ | ⟨k1, n1, rfl, rfl⟩ <;> rcases h2 with ⟨rfl, rfl⟩ | ⟨k2, n2, rfl, rfl⟩ <;> rcases h3 with ⟨rfl, rfl⟩ | ⟨k3, n3, rfl, rfl⟩ <;>
    simp at a b c d <;> simp [Instr.sliceBounds, Instr.sliceBound, asIntOf, a, b, c]

theorem slice_run {ρ : Rho} {t : TypeId} {x x' r : Value} {lo hi mx lo' hi' mx' : Option Value} (hx : VR ρ x x') (h1 : BR ρ lo lo') (h2 : BR ρ hi hi') (h3 : BR ρ mx mx')
    (h : sliceA P t x lo hi mx = some r) : ∃ r', (Instr.sliceAt t x' lo' hi' mx').run P w = .ok r' w ∧ VR ρ r r' := by
  unfold sliceA at h
  split at h
  · rename_i e hu
    split at h
    · rename_i a n c l hh m i e1 e2 e3 hinf
      have f1 : (l = none ∧ lo' = none) ∨ ∃ k n, l = some n ∧ lo' = some (.int k (n : Int)) := (natOf_eq h1 e1).imp (fun x => ⟨x.1, x.2.2⟩) fun ⟨k, n, x⟩ => ⟨k, n, x.1, x.2.2⟩
      have f2 : (hh = none ∧ hi' = none) ∨ ∃ k n, hh = some n ∧ hi' = some (.int k (n : Int)) := (natOf_eq h2 e2).imp (fun x => ⟨x.1, x.2.2⟩) fun ⟨k, n, x⟩ => ⟨k, n, x.1, x.2.2⟩
      have f3 : (m = none ∧ mx' = none) ∨ ∃ k n, m = some n ∧ mx' = some (.int k (n : Int)) := (natOf_eq h3 e3).imp (fun x => ⟨x.1, x.2.2⟩) fun ⟨k, n, x⟩ => ⟨k, n, x.1, x.2.2⟩
      dsimp only at h
      generalize hC : (bif Nat.blt c most then c else n) = C at h
      cases hG : (Nat.ble (l.getD 0) (hh.getD n) && Nat.ble (hh.getD n) (m.getD C) && Nat.ble (m.getD C) C && Nat.blt n most && (m.isNone || hh.isSome) && (Nat.ble c unk || m.isNone)) with
      | false => rw [hG] at h; cases h
      | true =>
      rw [hG] at h
      simp only [cond_true] at h
      simp only [Bool.and_eq_true, Nat.ble_eq, Bool.or_eq_true] at hG
      obtain ⟨⟨⟨⟨⟨g1, g2⟩, g3⟩, g5⟩, g4⟩, g6⟩ := hG
      have g5' : n < most := Nat.le_of_ble_eq_true g5
      have g4' : m = none ∨ hh.isSome := g4.imp (fun x => by simpa using x) id
      -- what the run comes to
      have run : ∀ (a' : Option Addr) (c' : Nat), C ≤ c' → (m = none → hh.getD n ≤ c') → (Instr.sliceAt t (.slice a' n c') lo' hi' mx').run P w =
          .ok (.slice (if m.getD c' = l.getD 0 then a' else a'.map (·.add (l.getD 0 * i.size))) (hh.getD n - l.getD 0) (m.getD c' - l.getD 0)) w := by
        intro a' c' hc hm
        have hb := run_bounds3 (P := P) (w := w) true n c' f1 f2 f3 g1 (by cases m <;> simp_all) (by cases m <;> simp at g3 ⊢; omega) g4'
        simp [Instr.sliceAt, Instr.slice, run_underlying hu, hb, sizeOf, typeInfo, hinf]
      cases hx with
      | snil n c =>
        cases hk : Nat.blt c most with
        | false => rw [hk] at h; simp at h
        | true =>
        rw [hk] at hC h
        simp only [cond_true, Bool.true_or] at hC h
        subst hC
        cases h
        refine ⟨_, run none c (Nat.le_refl _) (fun e => by subst e; simpa using g2), ?_⟩
        have e1 : (if m.getD c = l.getD 0 then (none : Option Addr) else Option.map (fun (x : Addr) => x.add (l.getD 0 * i.size)) none) = none := by split <;> rfl
        have e2 : (bif (m.getD c).beq (l.getD 0) then (none : Option Addr) else Option.map (fun (x : Addr) => x.add (l.getD 0 * i.size)) none) = none := by cases (m.getD c).beq (l.getD 0) <;> rfl
        rw [e1, e2]
        exact .snil _ _
      | void a a' c' =>
        have hk : Nat.blt (unk + 1) most = false := rfl
        have hu1 : Nat.ble (unk + 1) unk = false := rfl
        rw [hk] at hC h
        rw [hu1] at h
        simp only [cond_false, Bool.false_or, Option.isSome_some, Bool.and_true, Bool.and_false] at hC h
        subst hC
        cases m with
        | some mm =>
          rcases g6 with h0 | h0
          · omega
          · cases h0
        | none =>
          simp only [Option.isSome_none, cond_false, Option.getD_none] at h g2 g3
          cases hz : Nat.beq (l.getD 0) (hh.getD 0) with
          | false => rw [hz] at h; cases h
          | true =>
            rw [hz] at h; cases h
            have hz' := Nat.eq_of_beq_eq_true hz
            have r1 := run (some a') c' (Nat.zero_le _) (fun _ => by omega)
            simp only [Option.getD_none] at r1
            refine ⟨_, r1, ?_⟩
            rw [show hh.getD 0 - l.getD 0 = 0 by omega]
            split
            · exact .void _ _ _
            · exact .void _ _ _
      | @slice a a' n c c' ha hc =>
        rcases hc with ⟨rfl, hc⟩ | ⟨j, rfl, hj, hcap, hn⟩
        · have hk : Nat.blt c' most = true := Nat.ble_eq_true_of_le hc
          rw [hk] at hC h
          simp only [cond_true, Bool.true_or] at hC h
          subst hC
          cases h
          refine ⟨_, run (some a') c' (Nat.le_refl _) (fun e => by subst e; simpa using g2), ?_⟩
          have hlt : m.getD c' - l.getD 0 < most := by omega
          by_cases e : m.getD c' = l.getD 0
          · rw [if_pos e]
            simp only [e, Nat.beq_refl, cond_true]
            exact .slice _ _ _ ha (.inl ⟨rfl, by omega⟩)
          · rw [if_neg e]
            have : Nat.beq (m.getD c') (l.getD 0) = false := by
              cases hb : Nat.beq (m.getD c') (l.getD 0) with
              | false => rfl
              | true => exact absurd (Nat.eq_of_beq_eq_true hb) e
            simp only [this, cond_false, Option.map_some]
            exact .slice _ _ _ (ha.add _) (.inl ⟨rfl, hlt⟩)
        · have hk : Nat.blt (unk - j) most = false := by
            cases hb : Nat.blt (unk - j) most with
            | false => rfl
            | true => have : unk - j < most := Nat.le_of_ble_eq_true hb
                      simp only [unk, most] at this hj; omega
          rw [hk] at hC h
          simp only [cond_false, Bool.false_or, Option.isSome_some, Bool.and_true] at hC h
          subst hC
          cases m with
          | some mm =>
            simp only [Option.isSome_some, cond_true, Option.getD_some] at h g2 g3
            cases h
            refine ⟨_, run (some a') c' hn (fun e => by cases e), ?_⟩
            simp only [Option.getD_some]
            have hlt : mm - l.getD 0 < most := by omega
            by_cases e : mm = l.getD 0
            · rw [if_pos e]
              simp only [e, Nat.beq_refl, cond_true]
              exact .slice _ _ _ ha (.inl ⟨rfl, by omega⟩)
            · rw [if_neg e]
              have : Nat.beq mm (l.getD 0) = false := by
                cases hb : Nat.beq mm (l.getD 0) with
                | false => rfl
                | true => exact absurd (Nat.eq_of_beq_eq_true hb) e
              simp only [this, cond_false, Option.map_some]
              exact .slice _ _ _ (ha.add _) (.inl ⟨rfl, hlt⟩)
          | none =>
            simp only [Option.isSome_none, cond_false, Option.getD_none] at h g2 g3
            have hju : Nat.ble (unk - j) unk = true := Nat.ble_eq_true_of_le (Nat.sub_le _ _)
            rw [hju, Bool.and_true] at h
            cases hq : ((Nat.beq (l.getD 0) 0 || Nat.blt (l.getD 0) (hh.getD n)) && Nat.ble (unk - (unk - j) + l.getD 0) most) with
            | false =>
              rw [hq] at h
              cases hz : Nat.beq (l.getD 0) (hh.getD n) with
              | false => rw [hz] at h; cases h
              | true =>
                rw [hz] at h; cases h
                have hz' := Nat.eq_of_beq_eq_true hz
                have r1 := run (some a') c' hn (fun _ => by omega)
                simp only [Option.getD_none] at r1
                refine ⟨_, r1, ?_⟩
                rw [show hh.getD n - l.getD 0 = 0 by omega]
                split
                · exact .void _ _ _
                · exact .void _ _ _
            | true =>
            rw [hq] at h
            cases h
            simp only [Bool.and_eq_true, Bool.or_eq_true, Nat.ble_eq] at hq
            have hj2 : unk - (unk - j) = j := by simp only [unk, most] at hj ⊢; omega
            obtain ⟨hq1, hq2⟩ := hq
            rw [hj2] at hq2
            have r1 := run (some a') c' hn (fun _ => by omega)
            simp only [Option.getD_none] at r1
            refine ⟨_, r1, ?_⟩
            have e1 : (if c' = l.getD 0 then some a' else Option.map (fun (x : Addr) => x.add (l.getD 0 * i.size)) (some a')) = some (a'.add (l.getD 0 * i.size)) := by
              by_cases e : c' = l.getD 0
              · rw [if_pos e]
                rcases hq1 with h0 | h0
                · have h0' : l.getD 0 = 0 := Nat.eq_of_beq_eq_true h0
                  rw [h0']; simp [Addr.add]
                · have h0' : l.getD 0 < hh.getD n := Nat.le_of_ble_eq_true h0
                  omega
              · rw [if_neg e]; rfl
            rw [e1]
            have hb : (a.add (l.getD 0 * i.size)).block = a.block := by unfold Addr.add; split <;> rfl
            refine .slice _ _ _ (ha.add _) (.inr ⟨j + l.getD 0, ?_, ?_, ?_, ?_⟩)
            · omega
            · omega
            · rw [hb]; omega
            · omega
    · cases h
  · rename_i hu
    split at h
    · rename_i s0 l hh e1 e2
      have f1 : (l = none ∧ lo' = none) ∨ ∃ k n, l = some n ∧ lo' = some (.int k (n : Int)) := (natOf_eq h1 e1).imp (fun x => ⟨x.1, x.2.2⟩) fun ⟨k, n, x⟩ => ⟨k, n, x.1, x.2.2⟩
      have f2 : (hh = none ∧ hi' = none) ∨ ∃ k n, hh = some n ∧ hi' = some (.int k (n : Int)) := (natOf_eq h2 e2).imp (fun x => ⟨x.1, x.2.2⟩) fun ⟨k, n, x⟩ => ⟨k, n, x.1, x.2.2⟩
      dsimp only at h
      cases hG : (Nat.ble (l.getD 0) (hh.getD s0.size) && Nat.ble (hh.getD s0.size) s0.size) with
      | false => rw [hG] at h; cases h
      | true =>
      rw [hG] at h
      cases h
      simp only [Bool.and_eq_true, Nat.ble_eq] at hG
      cases hx
      have hb := run_bounds3 (P := P) (w := w) false s0.size s0.size f1 f2 (m := none) (mx := none) (.inl ⟨rfl, rfl⟩) hG.1 hG.2 (Nat.le_refl _) (.inl rfl)
      cases mx' with
      | some => exact h3.elim
      | none =>
      refine ⟨_, ?_, .string _⟩
      simp [Instr.sliceAt, Instr.slice, run_underlying hu, hb]
    · cases h
  · cases h
end
end
end Go.Proofs.YtdcjkglhhmnjiaaGreatDoor.Sx
