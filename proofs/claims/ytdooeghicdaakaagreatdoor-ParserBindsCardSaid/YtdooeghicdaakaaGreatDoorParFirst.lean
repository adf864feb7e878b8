/- The chapter's example. -/
import Derived.Test.YtdooeghicdaakaaGreatDoorParBindsPlain
import Derived.Lib.SlBytesConst
namespace Go.Proofs.YtdooeghicdaakaaGreatDoor
open Go.RowKit
attribute [local go_sem] Oper.semAt_some

/-- parser.Expr of a text without let and case. -/
theorem exprPlain_any (v : Value) (s : ByteArray) (hs : s.size ≤ 20000) (hp : plainW s = true) (hr : runsB s = true) (aX : Addr) (q : Er) (w : World) (hv : BytesAt w v s) (hX : w.cell? ⟨2, 0, none⟩ = some (errL aX)) (hT : TwoErrs w q.aP q.aL) :
    Calls Tryz.prog 5 #[v] w (WholePost aX q none (readE s) w) :=
  exprTop_any v s hs aX q (toksOf s) none (runs_of hr) _ (fun R => exprP_ok (cxOf s (toksOf s)) q R idE idE (tame_id _) (tame_id _) (plainW_no hp) _ _ (by simp [left, cxOf])) w hv hX hT

def txtF : List UInt8 := [102, 32, 120]
theorem txtF_ok : (plainW ⟨txtF.toArray⟩ && runsB ⟨txtF.toArray⟩ && (readE ⟨txtF.toArray⟩).2.isNone && decide ((readE ⟨txtF.toArray⟩).1.kind = 5)) = true := by kernel_rfl
theorem first_cell' {w : World} {a : Addr} {v : Value} (h : w.cell? a = some v) (o : Obj) : (w.alloc o).cell? a = some v := Lib.cell?_alloc_marked o h

set_option maxHeartbeats 2000000 in
set_option maxRecDepth 100000 in
theorem first3_any (aX : Addr) (q : Er) (w : World) (hX : w.cell? ⟨2, 0, none⟩ = some (errL aX)) (hT : TwoErrs w q.aP q.aL) :
    Calls Tryz.prog 4 #[] w fun e w' => e = .returned (.bool true) ∧ Below w.heap.size w w' := by
  have kc := fun (w : World) (C : Array Value) (n c : Nat) => Lib.run_convert_bytes_const (P := Tryz.prog) w 33 5 C n c Tryz.underlying33 Tryz.underlying5
  have hok := txtF_ok
  simp only [Bool.and_eq_true, decide_eq_true_eq] at hok
  obtain ⟨⟨⟨o1, o2⟩, o3⟩, o4⟩ := hok
  have HO := Lib.hid (exprPlain_any (.slice (some ⟨w.heap.size, 0, none⟩) 3 3) ⟨txtF.toArray⟩ (by decide) o1 o2 aX q)
  obtain ⟨r, hr⟩ : ∃ r, readE ⟨txtF.toArray⟩ = r := ⟨_, rfl⟩
  rw [hr] at HO o3 o4
  obtain ⟨y, f⟩ := r
  simp only at HO o3 o4
  have hf : f = none := by simpa using o3
  subst hf
  have O4 := Lib.hid o4
  clear o1 o2 o3 o4 hr
  go_enter Tryz.func4, Tryz.ntmps4
  go_wp2_with fail
  refine (HO.out _ (bytes_new w txtF _ 3 3 rfl) (first_cell' hX _) ⟨first_cell' hT.1 _, first_cell' hT.2 _⟩).mono ?_
  rintro e w1 ⟨hb1, (⟨p, b, h, _⟩ | ⟨_, _, p1, n1, p2, n2, p3, n3, rfl, hx⟩ | ⟨p, lim, b, _, h, _⟩)⟩
  · cases h
  · have ho := O4.out
    unfold exV
    rw [ho]
    have HB1 := Lib.hid hb1
    clear hb1 hx ho
    go_wp2
    go_ret
    exact ⟨rfl, (((Below.refl _ w).alloc (Nat.le_refl _) _).trans (HB1.out.mono (by simp))).alloc (by have := HB1.out.size; simp at this; omega) _⟩
  · cases h
end Go.Proofs.YtdooeghicdaakaaGreatDoor
