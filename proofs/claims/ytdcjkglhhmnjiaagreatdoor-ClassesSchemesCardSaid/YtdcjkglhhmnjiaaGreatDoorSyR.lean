/- Closed facts of a program, by one look each. -/
import Derived.Test.YtdcjkglhhmnjiaaGreatDoorSyQ
namespace Go.Proofs.YtdcjkglhhmnjiaaGreatDoor.Sx
noncomputable section
def tableB (P : Program) (f : TypeId → Bool) : Bool := (List.range P.types.size).all f
def zeroB (P : Program) : Bool := tableB P fun t => match P.info? t with
  | some i => match i.zero with
    | some v => closedV 8 v && Nat.beq v.cells.size i.size
    | none => true
  | none => true
def fieldsB (P : Program) : Bool := tableB P fun t => match P.underlying t with
  | some (.slice e) => Nat.blt e P.types.size
  | some (.map k e) => Nat.blt k P.types.size && Nat.blt e P.types.size
  | _ => true
def namesB (P : Program) : Bool := P.funcs.toList.all fun fn => !(fn.name == "runtime.NumGoroutine")

theorem good_of (P : Program) (h1 : zeroB P = true) (h2 : fieldsB P = true) (h3 : namesB P = true) : Good P := by
  have tab : ∀ f, tableB P f = true → ∀ t, t < P.types.size → f t = true := fun f h t ht => List.all_eq_true.1 h t (List.mem_range.2 ht)
  refine ⟨fun t i v ht hi hv => ?_, ⟨fun t e ht hu => ?_, fun t k e ht hu => ?_⟩, fun g fn hg => ?_⟩
  · have := tab _ h1 t ht
    rw [hi] at this
    dsimp only at this
    rw [hv] at this
    simp only [Bool.and_eq_true] at this
    exact ⟨⟨8, this.1⟩, Nat.eq_of_beq_eq_true this.2⟩
  · have := tab _ h2 t ht
    rw [hu] at this
    exact unblt this
  · have := tab _ h2 t ht
    rw [hu] at this
    simp only [Bool.and_eq_true] at this
    exact ⟨unblt this.1, unblt this.2⟩
  · have := List.all_eq_true.1 h3 fn (Array.mem_toList_iff.2 (Array.mem_of_getElem? hg))
    intro e
    rw [e] at this
    simp at this
end
end Go.Proofs.YtdcjkglhhmnjiaaGreatDoor.Sx
