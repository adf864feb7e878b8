/- A run in two parts. -/
import Derived.Test.YtelkelfpcndckaaGreatDoorSyR
import Derived.Test.YtelkelfpcndckaaGreatDoorProg
import Derived.KernelRfl
namespace Go.Proofs.YtelkelfpcndckaaGreatDoor.Sx
noncomputable section
def takeSeq : Nat → Code → Code
  | 0, _ => .skip
  | n + 1, c => match c with
    | .seq a b => .seq a (takeSeq n b)
    | c => c
def dropSeq : Nat → Code → Code
  | 0, c => c
  | n + 1, c => match c with
    | .seq _ b => dropSeq n b
    | _ => .skip
theorem code_skip (P : Program) (cl : Cl) (n : Nat) (rd : Option Nat) (N : Nat) (f : Fr) (s : St) : code P cl n rd N .skip f s = some (.normal, f, s) := rfl
theorem code_seq (P : Program) (cl : Cl) (n : Nat) (rd : Option Nat) (N : Nat) (a b : Code) (f : Fr) (s : St) : code P cl n rd N (.seq a b) f s = goOn (code P cl n rd N b) (code P cl n rd N a f s) := rfl
theorem code_cut (P : Program) (cl : Cl) (n : Nat) (rd : Option Nat) (N : Nat) : ∀ (k : Nat) (c : Code) (f : Fr) (s : St) (f1 : Fr) (s1 : St), code P cl n rd N (takeSeq k c) f s = some (.normal, f1, s1) → code P cl n rd N c f s = code P cl n rd N (dropSeq k c) f1 s1 := by
  intro k
  induction k with
  | zero => intro c f s f1 s1 h; cases h; rfl
  | succ k ih =>
    intro c f s f1 s1 h
    have other : takeSeq (k + 1) c = c → dropSeq (k + 1) c = .skip → code P cl n rd N c f s = code P cl n rd N (dropSeq (k + 1) c) f1 s1 := fun h1 h2 => by
      rw [h1] at h
      rw [h2, h]; rfl
    cases c with
    | seq a b =>
      have h' : goOn (code P cl n rd N (takeSeq k b)) (code P cl n rd N a f s) = some (.normal, f1, s1) := h
      show goOn (code P cl n rd N b) (code P cl n rd N a f s) = code P cl n rd N (dropSeq k b) f1 s1
      cases ha : code P cl n rd N a f s with
      | none => rw [ha] at h'; cases h'
      | some q =>
        obtain ⟨w, f2, s2⟩ := q
        rw [ha] at h'
        cases w with
        | normal => exact ih b f2 s2 f1 s1 h'
        | exit i => cases h'
        | ret => cases h'
    | _ => exact other rfl rfl
/-- what a function's run hands back -/
def handed (P : Program) (fn : Func) (x : Option (Go.Proofs.YtelkelfpcndckaaGreatDoor.Sx.Way × Fr × St)) : Option (Value × St) := match x with
  | some (.normal, f, s') => (match readRes' P fn f s' with
    | some v => some (v, s')
    | none => none)
  | some (.ret, f, s') => (match readRes' P fn f s' with
    | some v => some (v, s')
    | none => none)
  | _ => none
theorem yes_cut {P : Program} {gl N k g : Nat} {args : Array Value} {s : St} {fn : Func} {c : Code} (hf : P.funcs[g]? = some fn) (hb : fn.body = some c)
    (hok : (okCode P gl fn.ntmps c && (Nat.ble args.toList.length fn.ntmps && Nat.ble fn.ntmps most)) = true) (j : Nat) {f1 : Fr} {s1 : St}
    (hA : code P (call P gl N k) fn.ntmps none N (takeSeq j c) (params 0 args.toList .nil) s = some (.normal, f1, s1))
    (hB : yes (handed P fn (code P (call P gl N k) fn.ntmps none N (dropSeq j c) f1 s1)) = true) : yes (call P gl N (k + 1) true g args s) = true := by
  rw [← code_cut P (call P gl N k) fn.ntmps none N j c _ s f1 s1 hA] at hB
  unfold call
  rw [hf]
  dsimp only
  rw [hb]
  dsimp only
  rw [hok]
  exact hB
end
end Go.Proofs.YtelkelfpcndckaaGreatDoor.Sx
