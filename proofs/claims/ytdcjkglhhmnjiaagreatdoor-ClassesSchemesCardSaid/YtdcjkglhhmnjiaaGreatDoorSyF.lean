/- Whether two values are one, on memories that are the same but for their blocks' numbers. -/
import Derived.Test.YtdcjkglhhmnjiaaGreatDoorSyE
namespace Go.Proofs.YtdcjkglhhmnjiaaGreatDoor.Sx
noncomputable section

def ptrEq (s : St) (a b : Addr) : Option Bool :=
  bif Nat.beq a.block b.block then some (a == b)
  else bif Nat.ble s.lo a.block && Nat.blt a.block s.ro && Nat.ble s.lo b.block && Nat.blt b.block s.ro && Nat.beq a.off 0 && Nat.beq b.off 0 then some false
  else match s.obj a.block, s.obj b.block with
    | some (.cells _ _ (0, 0)), some (.cells _ _ (0, 0)) => some false
    | _, _ => none

/-- whether two values are one -/
def equalA (P : Program) (s : St) : Nat → TypeId → Value → Value → Option Bool
  | 0, _, _, _ => none
  | n + 1, t, x, y => match P.underlying t with
    | some .bool => match x, y with
      | .bool a, .bool b => some (a == b)
      | _, _ => none
    | some (.int _) => match x, y with
      | .int k a, .int k' b => if k = k' then some (a == b) else none
      | _, _ => none
    | some .string => match x, y with
      | .string a, .string b => some (a == b)
      | _, _ => none
    | some (.pointer e) => match x, y with
      | .pointer none, .pointer b => some b.isNone
      | .pointer (some _), .pointer none => some false
      | .pointer (some a), .pointer (some b) => match P.info? e with
        | some i => bif Nat.beq i.size 0 then none else ptrEq s a b
        | none => none
      | _, _ => none
    | some (.interface _) => match x, y with
      | .nilIface, .nilIface => some true
      | .nilIface, .iface _ _ => some false
      | .iface _ _, .nilIface => some false
      | .iface tx vx, .iface ty vy => bif Nat.beq tx ty then (match P.info? tx with
          | some i => bif i.comparable then equalA P s n tx vx vy else none
          | none => none) else some false
      | _, _ => none
    | some (.slice _) => match x, y with
      | .slice none _ _, .slice b _ _ => some b.isNone
      | .slice (some _) _ _, .slice none _ _ => some false
      | _, _ => none
    | some (.map _ _) => match x, y with
      | .map none, .map b => some b.isNone
      | .map (some _), .map none => some false
      | _, _ => none
    | some (.func _ _ _) => match x, y with
      | .nilFunc, .nilFunc => some true
      | .nilFunc, .func _ _ _ => some false
      | .func _ _ _, .nilFunc => some false
      | _, _ => none
    | _ => none

section
variable {P : Program} {w : World} {ρ : Rho} {s : St}

theorem far_false {c d o o2 : Nat} {sp sp2 : Option Nat} {cs1 cs2 : Array Value} {e1 e2 : TypeId} (hne : ¬ c = d) (g2 : w.heap[c]? = some (.cells cs1 e1 (0, 0))) (k2 : w.heap[d]? = some (.cells cs2 e2 (0, 0))) :
    (sameAddr ⟨c, o, sp⟩ ⟨d, o2, sp2⟩).run P w = .ok false w := by
  have hs1 : w.shape? c = some (e1, cs1.size) := by simp [World.shape?, g2]
  have hs2 : w.shape? d = some (e2, cs2.size) := by simp [World.shape?, k2]
  have hf : ∀ o s, w.frozen? ⟨c, o, s⟩ = false := fun o s => by rw [frozen_of g2]; simp
  have hf' : ∀ o s, w.frozen? ⟨d, o, s⟩ = false := fun o s => by rw [frozen_of k2]; simp
  simp [sameAddr, hne, hf, hf', noView, viewAt, hs1, hs2, mayBeOne, stringish]

theorem ptrEq_run (hz : RZ P ρ s w) {a b a' b' : Addr} {r : Bool} (ha : AR ρ a a') (hb : AR ρ b b') (h : ptrEq s a b = some r) : (sameAddr a' b').run P w = .ok r w := by
  cases ha with
  | @mk x c o sp hx =>
  cases hb with
  | @mk y d o2 sp2 hy =>
  unfold ptrEq at h
  dsimp only at h
  cases e : Nat.beq x y with
  | true =>
    obtain rfl : x = y := Nat.eq_of_beq_eq_true e
    rw [hx] at hy; cases hy
    rw [e] at h
    simp only [cond_true, Option.some.injEq] at h
    have : ((⟨x, o, sp⟩ : Addr) == ⟨x, o2, sp2⟩) = ((⟨c, ρ.off x + o, sp⟩ : Addr) == ⟨c, ρ.off x + o2, sp2⟩) := by
      rw [Bool.eq_iff_iff]; simp
    rw [this] at h
    simp [sameAddr, h]
  | false =>
    rw [e] at h
    simp only [cond_false] at h
    have hxy : x ≠ y := fun ec => by subst ec; simp at e
    cases hG : (Nat.ble s.lo x && Nat.blt x s.ro && Nat.ble s.lo y && Nat.blt y s.ro && Nat.beq o 0 && Nat.beq o2 0) with
    | true =>
      rw [hG] at h
      cases h
      simp only [Bool.and_eq_true, Nat.ble_eq] at hG
      obtain ⟨⟨⟨⟨⟨q1, q2⟩, q3⟩, q4⟩, q5⟩, q6⟩ := hG
      obtain rfl := Nat.eq_of_beq_eq_true q5
      obtain rfl := Nat.eq_of_beq_eq_true q6
      have q2' : x < s.ro := Nat.le_of_ble_eq_true q2
      have q4' : y < s.ro := Nat.le_of_ble_eq_true q4
      by_cases hcd : c = d
      · subst hcd
        have := hz.apart x y c q1 q2' q3 q4' hxy hx hy
        simp [sameAddr, this]
      · obtain ⟨⟨cs1, e1, h1⟩, _⟩ := hz.sen x c q1 q2' hx
        obtain ⟨⟨cs2, e2, h2⟩, _⟩ := hz.sen y d q3 q4' hy
        exact far_false hcd h1 h2
    | false =>
    rw [hG] at h
    simp only [cond_false] at h
    split at h
    · rename_i c1 e1 c2 e2 h1 h2
      cases h
      obtain ⟨q1, o1, g1, g2, g3, _⟩ := hz.obj _ _ h1
      obtain ⟨q2, o3, k1, k2, k3, _⟩ := hz.obj _ _ h2
      rw [hx] at g1; cases g1
      rw [hy] at k1; cases k1
      cases g3 with
      | @cells _ cs1 _ _ f1 hf1 =>
      cases k3 with
      | @cells _ cs2 _ _ f2 hf2 =>
      have hf1' : f1 = (0, 0) := by rcases hf1 with h | ⟨h, _⟩; exact h.1; cases h
      have hf2' : f2 = (0, 0) := by rcases hf2 with h | ⟨h, _⟩; exact h.1; cases h
      subst hf1'; subst hf2'
      exact far_false (fun ec => by
        subst ec
        exact hxy (hz.inj x y c (by simp [h1]) (by simp [h2]) hx hy)) g2 k2
    · cases h

set_option maxHeartbeats 4000000 in
theorem equalA_run (hz : RZ P ρ s w) : ∀ (n : Nat) (t : TypeId) (x y x' y' : Value) (r : Bool) (d : Nat), n ≤ d → VR ρ x x' → VR ρ y y' → equalA P s n t x y = some r → (Op.equalIn d t x' y').run P w = .ok r w := by
  intro n
  induction n with
  | zero => intro t x y x' y' r d _ _ _ h; cases h
  | succ n ih =>
    intro t x y x' y' r d hd hx hy h
    obtain ⟨d, rfl⟩ : ∃ d', d = d' + 1 := ⟨d - 1, by omega⟩
    unfold equalA at h
    split at h
    · rename_i hu
      split at h
      · cases hx; cases hy; cases h
        simp [Op.equalIn, run_underlying hu]
      · cases h
    · rename_i hu
      split at h
      · cases hx; cases hy
        split at h
        · rename_i e; cases h; simp [Op.equalIn, run_underlying hu, e]
        · cases h
      · cases h
    · rename_i hu
      split at h
      · cases hx; cases hy; cases h
        simp [Op.equalIn, run_underlying hu]
      · cases h
    · rename_i hu
      split at h
      · cases hx; cases h
        cases hy <;> simp [Op.equalIn, run_underlying hu]
      · cases hy; cases h
        cases hx with | ptr ha => simp [Op.equalIn, run_underlying hu]
      · rename_i e a b
        cases hx with
        | ptr ha =>
        cases hy with
        | ptr hb =>
        split at h
        · rename_i i hi
          cases e0 : Nat.beq i.size 0 with
          | true => rw [e0] at h; cases h
          | false =>
          rw [e0] at h
          have h0 : ¬ i.size = 0 := fun e => by rw [e] at e0; cases e0
          have := ptrEq_run hz ha hb h
          simp [Op.equalIn, run_underlying hu, sizeOf, typeInfo, hi, h0, this]
        · cases h
      · cases h
    · rename_i hu
      split at h
      · cases hx; cases hy; cases h; simp [Op.equalIn, run_underlying hu]
      · cases hx; cases h; cases hy <;> simp [Op.equalIn, run_underlying hu]
      · cases hy; cases h; cases hx <;> simp [Op.equalIn, run_underlying hu]
      · rename_i tx vx ty vy
        cases hx with
        | iface _ hvx =>
        cases hy with
        | iface _ hvy =>
        cases e0 : Nat.beq tx ty with
        | false =>
          rw [e0] at h; cases h
          have : ¬ tx = ty := fun e => by subst e; simp at e0
          simp [Op.equalIn, run_underlying hu, this]
        | true =>
          obtain rfl : tx = ty := Nat.eq_of_beq_eq_true e0
          rw [e0] at h
          simp only [cond_true] at h
          split at h
          · rename_i i hi
            cases e1 : i.comparable with
            | false => rw [e1] at h; cases h
            | true =>
            rw [e1] at h
            simp only [cond_true] at h
            have := ih tx vx vy _ _ r d (by omega) hvx hvy h
            simp [Op.equalIn, run_underlying hu, typeInfo, hi, e1, this]
          · cases h
      · cases h
    · rename_i hu
      split at h
      · cases hx; cases h; cases hy <;> simp [Op.equalIn, run_underlying hu]
      · cases hy; cases h; cases hx <;> simp [Op.equalIn, run_underlying hu]
      · cases h
    · rename_i hu
      split at h
      · cases hx; cases h; cases hy <;> simp [Op.equalIn, run_underlying hu]
      · cases hy; cases h; cases hx <;> simp [Op.equalIn, run_underlying hu]
      · cases h
    · rename_i hu
      split at h
      · cases hx; cases hy; cases h; simp [Op.equalIn, run_underlying hu]
      · cases hx; cases h; cases hy <;> simp [Op.equalIn, run_underlying hu]
      · cases hy; cases h; cases hx <;> simp [Op.equalIn, run_underlying hu]
      · cases h
    · cases h
end
end
end Go.Proofs.YtdcjkglhhmnjiaaGreatDoor.Sx
