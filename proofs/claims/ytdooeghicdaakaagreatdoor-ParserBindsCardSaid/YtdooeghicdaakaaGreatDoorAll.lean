import Derived.Test.YtdooeghicdaakaaGreatDoorWord
import Derived.Test.YtdooeghicdaakaaGreatDoorTold
import Derived.Lib.SlBytesRow
import Derived.Lib.SlBytesConst
import Derived.Shelf.Abstract
import Derived.Shelf.RegionOpen
import Derived.OwnWalkIn
import Derived.TacticsInMore
import Derived.LoopNIn
import Derived.LoopIn
import Derived.Maps.AppendAt
namespace Go.Proofs.YtdooeghicdaakaaGreatDoor
open Go.RowKit
attribute [local go_sem] Oper.semAt_some

/-- The value v is a slice of bytes, and they are s. -/
def BytesAt (w : World) (v : Value) (s : ByteArray) : Prop :=
  ∃ a cap, v = .slice a s.size cap ∧ (s.size = 0 ∨ ∃ b o, a = some ⟨b, o, none⟩ ∧ Lib.Bytes w b o s)

theorem bytes_later {w w' : World} {b o : Nat} {s : ByteArray} (h : Lib.Bytes w b o s) (hb : Below w.heap.size w w') : Lib.Bytes w' b o s := fun i hi => by
  have hc := h i hi
  have hlt := World.block_lt_of_cell? _ _ hc
  exact (hb.cell (p := ⟨b, o + i, none⟩) hlt).trans hc
theorem BytesAt.later {w w' : World} {v : Value} {s : ByteArray} (h : BytesAt w v s) (hb : Below w.heap.size w w') : BytesAt w' v s := by
  obtain ⟨a, cap, rfl, h⟩ := h
  refine ⟨a, cap, rfl, ?_⟩
  rcases h with h | ⟨b, o, rfl, h⟩
  · exact Or.inl h
  · exact Or.inr ⟨b, o, rfl, bytes_later h hb⟩
theorem empty_of_size {s : ByteArray} (h : s.size = 0) : s = ByteArray.empty := by
  apply ByteArray.ext
  apply Array.toList_inj.1
  have : s.data.toList = [] := List.length_eq_zero_iff.1 (by rw [← Lib.size_eq]; exact h)
  rw [this]; rfl
theorem BytesAt.conv {w : World} {a : Option Addr} {n cap : Nat} {s : ByteArray} (h : BytesAt w (.slice a n cap) s) :
    (convert 33 9 (.slice a n cap)).run Tryz.prog w = .ok (.string s) w := by
  obtain ⟨a', cap', e, h⟩ := h
  simp only [Value.slice.injEq] at e
  obtain ⟨rfl, rfl, rfl⟩ := e
  by_cases h0 : s.size = 0
  · rw [h0]
    cases a with
    | none => rw [run_convert_bytes_nil w 33 5 Tryz.underlying33 Tryz.underlying5 0 cap 9 Tryz.underlying9, empty_of_size h0]
    | some x =>
      rw [run_convert_bytes_string w 33 9 5 _ 0 cap Tryz.underlying33 Tryz.underlying5 Tryz.underlying9,
        run_bytesToString w x 0 cap [] (by have := run_loadCells_list (P := Tryz.prog) w x [] (fun j v hj => by simp at hj); simpa using this), empty_of_size h0]
      rfl
  · rcases h with h | ⟨b, o, rfl, h⟩
    · exact absurd h h0
    · exact Lib.run_convert_whole w 33 5 9 Tryz.underlying33 Tryz.underlying5 Tryz.underlying9 b o s h cap

set_option maxRecDepth 100000 in
set_option maxHeartbeats 400000 in
theorem all_any (v : Value) (s : ByteArray) (w : World) (hv : BytesAt w v s) (hs : s.size ≤ 20000) :
    Calls Tryz.prog 26 #[v] w fun e w' => e = .returned (.func (.func 43) #[] #[.pointer (some ⟨w.heap.size, 0, none⟩)]) ∧ w' = w.alloc (.cells #[.string s] 9) := by
  have hv' := hv
  obtain ⟨a, cap, rfl, _⟩ := hv
  have hc := hv'.conv
  clear hv'
  go_enter Tryz.func26, Tryz.ntmps26
  go_wp2
  go_ret
  exact ⟨rfl, rfl⟩
end Go.Proofs.YtdooeghicdaakaaGreatDoor
