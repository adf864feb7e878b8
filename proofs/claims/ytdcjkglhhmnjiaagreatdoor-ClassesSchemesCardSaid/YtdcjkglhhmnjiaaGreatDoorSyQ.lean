/- The small memory at a law's start: listed errors, and nothing else. -/
import Derived.Test.YtdcjkglhhmnjiaaGreatDoorSyP
namespace Go.Proofs.YtdcjkglhhmnjiaaGreatDoor.Sx
noncomputable section
open Go.RowKit

/-- a listed error: its variable, its row's type, where it points -/
structure Sen where
  g : Nat
  elem : TypeId
  a : Addr

def lay (T : TypeId) : List Sen → Nat → Tr Obj → Tr Obj
  | [], _, t => t
  | x :: l, k, t => lay T l (Nat.succ k) (t.set dep x.g (some (.cells #[.iface T (.pointer (some ⟨k, 0, none⟩))] x.elem (0, 0))))
def st0 (T : TypeId) (L : List Sen) : St := ⟨200, 100, 200, lay T L 100 .nil⟩

theorem lay_obj (T : TypeId) : ∀ (L : List Sen) (k : Nat) (t : Tr Obj) (b : Nat) (o : Obj), (∀ x ∈ L, x.g < most) → (lay T L k t).get dep b = some o →
    t.get dep b = some o ∨ ∃ i x, L[i]? = some x ∧ b = x.g ∧ o = .cells #[.iface T (.pointer (some ⟨k + i, 0, none⟩))] x.elem (0, 0) := by
  intro L
  induction L with
  | nil => intro k t b o _ h; exact .inl h
  | cons x L ih =>
    intro k t b o hg h
    rw [lay] at h
    rcases ih (Nat.succ k) _ b o (fun y hy => hg y (by simp [hy])) h with h1 | ⟨i, y, h1, h2, h3⟩
    · by_cases e : b = x.g
      · subst e
        have : (t.set dep x.g (some (.cells #[.iface T (.pointer (some ⟨k, 0, none⟩))] x.elem (0, 0)))).get dep x.g = some (.cells #[.iface T (.pointer (some ⟨k, 0, none⟩))] x.elem (0, 0)) := Tr.get_set_same 40 _ _ _ (hg x (by simp))
        rw [this] at h1; cases h1
        exact .inr ⟨0, x, rfl, rfl, rfl⟩
      · rw [Tr.get_set_other _ _ _ _ _ e] at h1; exact .inl h1
    · exact .inr ⟨i + 1, y, by simpa using h1, h2, by rw [h3, show Nat.succ k + i = k + (i + 1) by omega]⟩

/-- where the small memory's blocks lie -/
def rho0 (gl : Nat) (L : List Sen) : Rho := ⟨fun b => if b < 100 then (if b < gl then some b else none) else if b < 200 then (L[b - 100]?).map (·.a.block) else none, fun b => if b < 100 then 0 else ((L[b - 100]?).map (·.a.off)).getD 0, fun _ => 0, fun _ => Nat.zero_le _⟩

structure Lies (gl : Nat) (T : TypeId) (L : List Sen) (W : World) : Prop where
  size : gl ≤ W.heap.size
  small : gl ≤ 100
  len : L.length ≤ 100
  var : ∀ (x : Sen), x ∈ L → x.g < gl ∧ ∃ cs, W.heap[x.g]? = some (.cells cs x.elem (0, 0)) ∧ cs[0]? = some (.iface T (.pointer (some x.a)))
  blk : ∀ (x : Sen), x ∈ L → x.a.spot = none ∧ ∃ cs e, W.heap[x.a.block]? = some (.cells cs e (0, 0))
  apart : ∀ (i j : Nat) (x y : Sen), L[i]? = some x → L[j]? = some y → i ≠ j → x.a ≠ y.a

theorem lies_rz {P : Program} {gl : Nat} {T : TypeId} {L : List Sen} {W : World} (h : Lies gl T L W) : RZ P (rho0 gl L) (st0 T L) W := by
  have hg : ∀ x ∈ L, x.g < most := fun x hx => by have := (h.var x hx).1; have := h.small; simp only [most]; omega
  have live : ∀ b o, (st0 T L).obj b = some o → ∃ i x, L[i]? = some x ∧ b = x.g ∧ o = .cells #[.iface T (.pointer (some ⟨100 + i, 0, none⟩))] x.elem (0, 0) := by
    intro b o hb
    rcases lay_obj T L 100 .nil b o hg hb with h1 | h1
    · rw [get_nil] at h1; cases h1
    · exact h1
  refine ⟨fun b o hb => ?_, fun b b' c hb hb' e e' => ?_, fun b hb => ?_, fun b c e => ?_, Nat.le_refl _, fun b c h1 h2 e => ?_, fun b b' c h1 h2 h3 h4 hne e e' => ?_⟩
  · obtain ⟨i, x, hx, rfl, rfl⟩ := live b o hb
    have hxm : x ∈ L := List.mem_of_getElem? hx
    have hi : i < L.length := (List.getElem?_eq_some_iff.1 hx).1
    obtain ⟨h1, cs, h2, h3⟩ := h.var x hxm
    have hs := h.small
    have hl := h.len
    refine ⟨x.g, .cells cs x.elem (0, 0), ?_, h2, .cells x.elem _ _ (.inl ⟨rfl, by decide⟩) ?_ fun j u v hu hv => ?_, fun cs2 e2 f2 _ => by simp [rho0], by simp only [rho0]; rw [if_pos (by omega)]⟩
    · simp only [rho0]; rw [if_pos (by omega), if_pos h1]
    · have := (Array.getElem?_eq_some_iff.1 h3).1; simp; omega
    · have hj : j = 0 := by have := (Array.getElem?_eq_some_iff.1 hu).1; simp at this; omega
      subst hj
      simp at hu; subst hu
      rw [h3] at hv; cases hv
      refine .iface T (.ptr ?_)
      have hoff : (rho0 gl L).off (100 + i) = x.a.off := by
        simp only [rho0]
        rw [if_neg (by omega), show 100 + i - 100 = i by omega, hx]; rfl
      have hr : (rho0 gl L).at_ (100 + i) = some x.a.block := by
        simp only [rho0]
        rw [if_neg (by omega), if_pos (by omega), show 100 + i - 100 = i by omega, hx]; rfl
      have := AR.mk (ρ := rho0 gl L) (o := 0) (s := none) hr
      rw [hoff, Nat.add_zero] at this
      have hsp := (h.blk x hxm).1
      have hxa : x.a = ⟨x.a.block, x.a.off, none⟩ := by rw [← hsp]
      rw [hxa]; exact this
  · obtain ⟨o, ho⟩ := Option.isSome_iff_exists.1 hb
    obtain ⟨o', ho'⟩ := Option.isSome_iff_exists.1 hb'
    obtain ⟨i, x, hx, rfl, _⟩ := live b o ho
    obtain ⟨i', x', hx', rfl, _⟩ := live b' o' ho'
    have h1 := (h.var x (List.mem_of_getElem? hx)).1
    have h2 := (h.var x' (List.mem_of_getElem? hx')).1
    have hs := h.small
    simp only [rho0] at e e'
    rw [if_pos (by omega), if_pos h1] at e
    rw [if_pos (by omega), if_pos h2] at e'
    rw [← e'] at e; exact Option.some.inj e
  · have hb' : 200 ≤ b := hb
    simp only [rho0]; rw [if_neg (by omega), if_neg (by omega)]
  · simp only [rho0] at e
    split at e
    · split at e
      · cases e; have := h.size; omega
      · cases e
    · split at e
      · cases hx : L[b - 100]? with
        | none => rw [hx] at e; cases e
        | some x => rw [hx] at e; cases e; obtain ⟨_, cs, e1, h1⟩ := h.blk x (List.mem_of_getElem? hx); exact (Array.getElem?_eq_some_iff.1 h1).1
      · cases e
  · have h1' : 100 ≤ b := h1
    have h2' : b < 200 := h2
    simp only [rho0] at e
    rw [if_neg (by omega), if_pos h2'] at e
    cases hx : L[b - 100]? with
    | none => rw [hx] at e; cases e
    | some x =>
      rw [hx] at e; cases e
      refine ⟨(h.blk x (List.mem_of_getElem? hx)).2, fun j hj hl => ?_⟩
      obtain ⟨o, ho⟩ := Option.isSome_iff_exists.1 hl
      obtain ⟨i, y, hy, rfl, _⟩ := live j o ho
      have := (h.var y (List.mem_of_getElem? hy)).1
      have hs := h.small
      have hj' : 200 ≤ y.g := hj
      omega
  · have h1' : 100 ≤ b := h1
    have h2' : b < 200 := h2
    have h3' : 100 ≤ b' := h3
    have h4' : b' < 200 := h4
    simp only [rho0] at e e' ⊢
    rw [if_neg (by omega), if_pos h2'] at e
    rw [if_neg (by omega), if_pos h4'] at e'
    rw [if_neg (by omega), if_neg (by omega)]
    cases hx : L[b - 100]? with
    | none => rw [hx] at e; cases e
    | some x =>
      cases hy : L[b' - 100]? with
      | none => rw [hy] at e'; cases e'
      | some y =>
        rw [hx] at e
        rw [hy] at e'
        intro eo
        have eo' : x.a.off = y.a.off := eo
        have eb : x.a.block = y.a.block := (Option.some.inj e).trans (Option.some.inj e').symm
        have hne2 := h.apart _ _ x y hx hy (by omega)
        have s1 := (h.blk x (List.mem_of_getElem? hx)).1
        have s2 := (h.blk y (List.mem_of_getElem? hy)).1
        apply hne2
        cases hxa : x.a with
        | mk b1 o1 p1 => cases hya : y.a with
          | mk b2 o2 p2 => rw [hxa] at eo' eb s1; rw [hya] at eo' eb s2; simp_all

/-- a law that the small memory answers yes -/
def yes : Option (Value × St) → Bool
  | some (.bool true, _) => true
  | _ => false

theorem law_of_yes {P : Program} {gl : Nat} {T : TypeId} {L : List Sen} {W : World} (hG : Good P) (hmix : P.follows .mixedOrders = true) (h : Lies gl T L W) {N k : Nat} {g : FuncId} {args args' : Array Value}
    (hargs : ∀ ρ, VsR ρ args args') (hy : yes (call P gl N k true g args (st0 T L)) = true) : Calls P g args' W fun e w' => e = .returned (.bool true) ∧ Below W.heap.size W w' := by
  cases hc : call P gl N k true g args (st0 T L) with
  | none => rw [hc] at hy; cases hy
  | some r =>
    obtain ⟨v, s'⟩ := r
    rw [hc] at hy
    have hv : v = .bool true := by
      unfold yes at hy
      split at hy
      · rename_i h; cases h; rfl
      · cases hy
    subst hv
    have hz := lies_rz (P := P) h
    have hs := h.small
    refine ((call_ok hG hmix N k).fn g args _ _ s' hc (rho0 gl L) W args' (hargs _) hz (by simp only [st0, most]; omega) (fun g hg => ⟨by simp only [rho0]; rw [if_pos (by omega), if_pos hg], by simp only [rho0]; rw [if_pos (by omega)]⟩)).mono ?_
    rintro e w' ⟨v', ρ', rfl, hv, hS, _⟩
    cases hv
    refine ⟨rfl, hS.os, hS.tape, hS.output, hS.size, fun c hcl => ?_⟩
    by_cases hx : ∃ b, ((st0 T L).obj b).isSome ∧ (rho0 gl L).at_ b = some c
    · obtain ⟨b, hb, e⟩ := hx
      refine (hS.fixed b c ?_ hb e).2
      obtain ⟨o, ho⟩ := Option.isSome_iff_exists.1 hb
      exact some_lt hz ho
    · exact hS.kept c hcl fun b hb e => hx ⟨b, hb, e⟩
end
end Go.Proofs.YtdcjkglhhmnjiaaGreatDoor.Sx
