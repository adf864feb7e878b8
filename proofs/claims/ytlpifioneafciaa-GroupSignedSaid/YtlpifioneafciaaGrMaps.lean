/- Maps from names to numbers, sets of names. -/
import Derived.Test.YtlpifioneafciaaGrNil
import Derived.Maps.OwnOps
import Derived.Maps.Views
import Derived.Maps.AppendAt
import Derived.Maps.OwnSet
import Derived.Deep.AppendLies
import Derived.BigRegion
import Derived.LoopN
namespace Go.Proofs.Ytlpifioneafciaa
open Go.RowKit Go.Maps Go.Lib
attribute [local go_sem] Oper.semAt_some
theorem strLaw : Keyed Try.prog 9 := string_keyed Try.underlying9
theorem zeroInt (w : World) : (zeroValue 3).run Try.prog w = .ok (.int .i64 0) w := by kernel_rfl
/-- Block M is a map that tells each variable's place. -/
def MapV (M m : Nat) (f : ByteArray → Option Nat) (w : World) : Prop := ∃ D : DataW Unit, IsMap D ∧ w.ownsMap Try.prog 9 (plainElem Try.prog 3) M m D ∧
  ∀ n : ByteArray, n.size ≤ maxLen → Maps.has D (.string n.data.toList) = (f n).isSome ∧ D.atKey (.string n.data.toList) (.lit (.int .i64 0)) = .lit (.int .i64 ((f n).getD 0 : Nat))
theorem MapV.kept {M m : Nat} {f : ByteArray → Option Nat} {w w' : World} {row : Option Nat} (h : MapV M m f w) (hg : w.grownBy w' row) (hne : some M ≠ row) : MapV M m f w' := by
  obtain ⟨D, hD, h1, h2⟩ := h
  exact ⟨D, hD, h1.kept hg hne, h2⟩
theorem MapV.lt {M m : Nat} {f : ByteArray → Option Nat} {w : World} (h : MapV M m f w) : M < w.heap.size := by
  obtain ⟨_, _, h1, _⟩ := h; exact h1.lt
theorem MapV.look {M m : Nat} {f : ByteArray → Option Nat} {w : World} (h : MapV M m f w) (n : ByteArray) (hn : n.size ≤ maxLen) :
    (Instr.lookup 52 (.map (some M)) (.string n) true).run Try.prog w = .ok (.tuple #[.int .i64 ((f n).getD 0 : Nat), .bool (f n).isSome]) w := by
  obtain ⟨D, _, h1, h2⟩ := h
  obtain ⟨v, ps, hrun, hv⟩ := h1.look_ok strLaw Try.underlying52 (zeroInt w) (plainElem_int Try.underlying3 (by decide)) (Go.WideMaps.keyOf_string_mk Try.underlying9 hn)
  obtain ⟨c, rfl, hc, _⟩ := plainElem_int_inv Try.underlying3 hv
  have e : D.atKey (.string n.data.toList) (.lit (.int .i64 0)) = .lit (.int .i64 c) := congrArg Prod.fst hc
  rw [(h2 n hn).2] at e
  cases e
  rw [hrun, (h2 n hn).1]
theorem MapV.upd {M m : Nat} {f g : ByteArray → Option Nat} {w : World} (h : MapV M m f w) (hm : m < maxLen) (n : ByteArray) (hn : n.size ≤ maxLen) (x : Nat) (hx : x ≤ 4000000000000) (hg : ∀ k, g k = if k = n then some x else f k) :
    ∃ w', (Instr.mapUpdate 52 (.map (some M)) (.string n) (.int .i64 (x : Int))).run Try.prog w = .ok () w' ∧ MapV M (m + 1) g w' ∧ w.grownBy w' (some M) := by
  obtain ⟨D, hD, h1, h2⟩ := h
  obtain ⟨w', hrun, h3, h4⟩ := h1.update strLaw Try.underlying52 hm (Go.WideMaps.keyOf_string_mk Try.underlying9 hn) (plainElem_int Try.underlying3 (WalkArith.wf_i64 (n := (x : Int)) (by omega)))
  refine ⟨w', hrun, ⟨_, hD.put _ _, h3, fun k hk => ?_⟩, h4⟩
  rw [hg]
  by_cases e : k = n
  · subst e
    rw [atKey_put_same hD (by trivial), has_put_same hD (by trivial)]
    simp
  · have e2 : (Lit.string k.data.toList) ≠ .string n.data.toList := by
      intro e'
      apply e
      have : k.data.toList = n.data.toList := by injection e'
      cases k; cases n; simp_all
    rw [atKey_put_other e2, has_put_other e2, if_neg e]
    exact h2 k hk
theorem MapV.ne {M m k : Nat} {f : ByteArray → Option Nat} {w : World} {cs : Array Value} {T : TypeId} {fz : Nat × Nat} (h : MapV M m f w) (hk : w.heap[k]? = some (.cells cs T fz)) : M ≠ k := by
  rintro rfl
  obtain ⟨_, _, ⟨es, clock, hh, _⟩, _⟩ := h
  rw [hk] at hh; cases hh
theorem MapV.mono {M m m' : Nat} {f : ByteArray → Option Nat} {w : World} (h : MapV M m f w) (hm : m ≤ m') : MapV M m' f w := by
  obtain ⟨D, hD, h1, h2⟩ := h
  exact ⟨D, hD, h1.mono hm, h2⟩
theorem MapV.start (w : World) : MapV w.heap.size 0 (fun _ => none) (w.alloc (.map #[] 0)) :=
  ⟨.map [], ⟨[], rfl⟩, World.ownsMap_made (H := Unit) w Try.prog 9 (plainElem Try.prog 3), fun _ _ => ⟨rfl, rfl⟩⟩
theorem zeroUnit (w : World) : (zeroValue 77).run Try.prog w = .ok (.agg #[]) w := by kernel_rfl
/-- Block M is a set of texts, S. -/
def SetV (M m : Nat) (S : ByteArray → Bool) (w : World) : Prop := ∃ D : DataW Unit, IsMap D ∧ w.ownsMap Try.prog 9 unitElem M m D ∧
  ∀ n : ByteArray, n.size ≤ maxLen → Maps.has D (.string n.data.toList) = S n
theorem SetV.kept {M m : Nat} {S : ByteArray → Bool} {w w' : World} {row : Option Nat} (h : SetV M m S w) (hg : w.grownBy w' row) (hne : some M ≠ row) : SetV M m S w' := by
  obtain ⟨D, hD, h1, h2⟩ := h
  exact ⟨D, hD, h1.kept hg hne, h2⟩
theorem grown_of_belowS {w w' : World} (hb : Below w.heap.size w w') : w.grownBy w' none := ⟨hb.os, hb.tape, hb.output, hb.size, fun i hi _ => hb.block i hi⟩
theorem SetV.below {M m : Nat} {S : ByteArray → Bool} {w w' : World} (h : SetV M m S w) (hb : Below w.heap.size w w') : SetV M m S w' := h.kept (row := none) (grown_of_belowS hb) (by simp)
theorem SetV.lt {M m : Nat} {S : ByteArray → Bool} {w : World} (h : SetV M m S w) : M < w.heap.size := by
  obtain ⟨_, _, h1, _⟩ := h; exact h1.lt
theorem SetV.look {M m : Nat} {S : ByteArray → Bool} {w : World} (h : SetV M m S w) (n : ByteArray) (hn : n.size ≤ maxLen) :
    (Instr.lookup 62 (.map (some M)) (.string n) true).run Try.prog w = .ok (.tuple #[.agg #[], .bool (S n)]) w := by
  obtain ⟨D, _, h1, h2⟩ := h
  obtain ⟨v, ps, hrun, hv⟩ := h1.look_ok strLaw Try.underlying62 (zeroUnit w) unitElem_mk (Go.WideMaps.keyOf_string_mk Try.underlying9 hn)
  obtain ⟨rfl, _⟩ := unitElem_inv hv
  rw [hrun, h2 n hn]
theorem SetV.upd {M m : Nat} {S S' : ByteArray → Bool} {w : World} (h : SetV M m S w) (hm : m < maxLen) (n : ByteArray) (hn : n.size ≤ maxLen) (hS : ∀ k, S' k = if k = n then true else S k) :
    ∃ w', (Instr.mapUpdate 62 (.map (some M)) (.string n) (.agg #[])).run Try.prog w = .ok () w' ∧ SetV M (m + 1) S' w' ∧ w.grownBy w' (some M) := by
  obtain ⟨D, hD, h1, h2⟩ := h
  obtain ⟨w', hrun, h3, h4⟩ := h1.update strLaw Try.underlying62 hm (Go.WideMaps.keyOf_string_mk Try.underlying9 hn) (unitElem_mk (H := Unit))
  refine ⟨w', hrun, ⟨_, hD.put _ _, h3, fun k hk => ?_⟩, h4⟩
  rw [hS]
  by_cases e : k = n
  · subst e
    rw [has_put_same hD (by trivial)]
    simp
  · have e2 : (Lit.string k.data.toList) ≠ .string n.data.toList := by
      intro e'
      apply e
      have : k.data.toList = n.data.toList := by injection e'
      cases k; cases n; simp_all
    rw [has_put_other e2, if_neg e]
    exact h2 k hk
theorem SetV.ne {M m k : Nat} {S : ByteArray → Bool} {w : World} {cs : Array Value} {T : TypeId} {fz : Nat × Nat} (h : SetV M m S w) (hk : w.heap[k]? = some (.cells cs T fz)) : M ≠ k := by
  rintro rfl
  obtain ⟨_, _, ⟨es, clock, hh, _⟩, _⟩ := h
  rw [hk] at hh; cases hh
theorem SetV.start (w : World) : SetV w.heap.size 0 (fun _ => false) (w.alloc (.map #[] 0)) :=
  ⟨.map [], ⟨[], rfl⟩, World.ownsMap_made (H := Unit) w Try.prog 9 unitElem, fun _ _ => rfl⟩
theorem MapV.look1 {M m : Nat} {f : ByteArray → Option Nat} {w : World} (h : MapV M m f w) (n : ByteArray) (hn : n.size ≤ maxLen) :
    (Instr.lookup 52 (.map (some M)) (.string n) false).run Try.prog w = .ok (.int .i64 ((f n).getD 0 : Nat)) w := by
  obtain ⟨D, _, h1, h2⟩ := h
  obtain ⟨c, hrun, hc, _⟩ := World.ownsMap.lookup_int h1 strLaw Try.underlying52 Try.underlying3 (zeroInt w) (Go.WideMaps.keyOf_string_mk Try.underlying9 hn)
  rw [(h2 n hn).2] at hc
  cases hc
  exact hrun
theorem MapV.below {M m : Nat} {f : ByteArray → Option Nat} {w w' : World} (h : MapV M m f w) (hb : Below w.heap.size w w') : MapV M m f w' := h.kept (row := none) (grown_of_belowS hb) (by simp)
end Go.Proofs.Ytlpifioneafciaa
