/- An error seen as plain data: the law's own helpers. -/
import Derived.Test.YtnlpilceooncmaaDoorBytes
import Derived.StillTailTactics
import Derived.Deep.RegionWith
namespace Go.Proofs.YtnlpilceooncmaaDoor
open Go.RowKit

/-- All of api's errors lie in memory. -/
def ErrsAt (w : World) : Prop := ∀ g, g ∈ [2, 3, 4, 5, 6, 7, 8, 9, 10, 1, 11, 12, 13, 14] →
  ∃ a, w.cell? ⟨g, 0, none⟩ = some (errL a)
theorem ErrsAt.later {w w' : World} (h : ErrsAt w) (hb : Below w.heap.size w w') : ErrsAt w' := fun g hg => by
  obtain ⟨a, ha⟩ := h g hg
  exact ⟨a, (hb.cell (p := ⟨g, 0, none⟩) (World.block_lt_of_cell? _ _ ha)).trans ha⟩

set_option maxHeartbeats 1000000 in
theorem sentinels_any (aL : Addr) (w : World) (hE : w.cell? ⟨0, 0, none⟩ = some (errL aL)) (hA : ErrsAt w) :
    Calls Tryd.prog 55 #[] w fun e w' => e = .returned (.slice (some ⟨w.heap.size, 0, none⟩) 15 15) ∧ Below w.heap.size w w' ∧ w'.cell? ⟨w.heap.size, 0, none⟩ = some (errL aL) ∧ w.heap.size < w'.heap.size := by
  obtain ⟨a1, h1⟩ := hA 2 (by simp)
  obtain ⟨a2, h2⟩ := hA 3 (by simp)
  obtain ⟨a3, h3⟩ := hA 4 (by simp)
  obtain ⟨a4, h4⟩ := hA 5 (by simp)
  obtain ⟨a5, h5⟩ := hA 6 (by simp)
  obtain ⟨a6, h6⟩ := hA 7 (by simp)
  obtain ⟨a7, h7⟩ := hA 8 (by simp)
  obtain ⟨a8, h8⟩ := hA 9 (by simp)
  obtain ⟨a9, h9⟩ := hA 10 (by simp)
  obtain ⟨a10, h10⟩ := hA 1 (by simp)
  obtain ⟨a11, h11⟩ := hA 11 (by simp)
  obtain ⟨a12, h12⟩ := hA 12 (by simp)
  obtain ⟨a13, h13⟩ := hA 13 (by simp)
  obtain ⟨a14, h14⟩ := hA 14 (by simp)
  clear hA
  unfold errL at *
  go_enter Tryd.func55, Tryd.ntmps55
  go_wp2
  go_ret
  exact ⟨rfl, (Below.refl _ _).alloc (Nat.le_refl _) _, by simp, by simp⟩

theorem Tryd.compErr : (Tryd.prog.info? 82).map (·.comparable) = some true := by kernel_rfl
theorem Tryd.sizeErr : (Tryd.prog.info? 100).map (·.size) = some 1 := by kernel_rfl

set_option maxHeartbeats 1000000 in
theorem alike_same (a : Addr) (w : World) : Calls Tryd.prog 56 #[errL a, errL a] w fun e w' => e = .returned (.bool true) ∧ w = w' := by
  obtain ⟨i, hi, hcmp⟩ := Option.map_eq_some_iff.1 Tryd.compErr
  obtain ⟨j, hj, _⟩ := Option.map_eq_some_iff.1 Tryd.sizeErr
  unfold errL
  go_enter Tryd.func56, Tryd.ntmps56
  go_wp2
  rw [run_eql_iface_ptr_same w a Tryd.underlying26 Tryd.underlying82 hi hcmp hj]
  go_wp2
  go_ret
  exact ⟨rfl, rfl⟩

set_option maxHeartbeats 1000000 in
theorem sentinel_any (aL : Addr) (w : World) (hE : w.cell? ⟨0, 0, none⟩ = some (errL aL)) (hA : ErrsAt w) :
    Calls Tryd.prog 35 #[errL aL] w fun e w' => e = .returned (.int .i64 101) ∧ Below w.heap.size w w' := by
  have HE := Lib.hid hE; clear hE
  have HA := Lib.hid hA; clear hA
  go_enter Tryd.func35, Tryd.ntmps35
  go_wp2_with (go_at_call 55; refine (sentinels_any aL _ HE.out HA.out).mono ?_; rintro e w1 ⟨rfl, hb1, hc1, hz1⟩)
  go_loopw [4] (fun vi wr => vi = .int .i64 0 ∧ wr = w1) (fun _ _ => 0)
  case atStart => exact ⟨rfl, rfl⟩
  case round =>
    obtain ⟨rfl, rfl⟩ := hrel
    unfold errL at *
    go_wp2_with (go_at_call 56; refine (alike_same aL _).mono ?_; rintro e w' ⟨rfl, rfl⟩)
    go_ret
    exact ⟨rfl, hb1⟩

def faultV (code : Int) (placed : Bool) (pos : Int) : Value := .agg #[.int .i64 code, .bool placed, .int .i64 pos]

set_option maxHeartbeats 1000000 in
theorem placed_any (c p : Int) (w : World) (hc : (c == 0) = false) :
    Calls Tryd.prog 27 #[.int .i64 c, .int .i64 p] w fun e w' => e = .returned (faultV c true p) ∧ Below w.heap.size w w' := by
  go_enter Tryd.func27, Tryd.ntmps27
  go_wp2
  exact bodyPost_ret (v := faultV c true p) (by simp [results, Tryd.results27, go_sem, faultV]) rfl ⟨rfl, (Below.refl _ _).alloc (Nat.le_refl _) _⟩

set_option maxHeartbeats 1000000 in
theorem sameFault_eq (c p : Int) (b : Bool) (w : World) :
    Calls Tryd.prog 17 #[faultV c b p, faultV c b p] w fun e w' => e = .returned (.bool true) ∧ Below w.heap.size w w' := by
  unfold faultV
  go_enter Tryd.func17, Tryd.ntmps17
  go_wp2
  go_ret
  exact ⟨rfl, ((Below.refl _ _).alloc (Nat.le_refl _) _).alloc (by simp) _⟩

theorem assert_at (a : Addr) (w : World) : (Instr.typeAssert (.iface 60 (.pointer (some a))) 26 60 true).run Tryd.prog w = .ok (.tuple #[.pointer (some a), .bool true]) w := by kernel_rfl

set_option maxHeartbeats 2000000 in
theorem fault_at (aL : Addr) (b p : Nat) (w : World) (hE : w.cell? ⟨0, 0, none⟩ = some (errL aL)) (hA : ErrsAt w) (hat : AtBlock w b p (errL aL)) :
    Calls Tryd.prog 16 #[errVal b] w fun e w' => e = .returned (faultV 101 true p) ∧ Below w.heap.size w w' := by
  have c0 : w.cell? ⟨b, 0, none⟩ = some (.int .i64 p) := by simp [World.cell?, show w.heap[b]? = _ from hat]
  have c1 : w.cell? ⟨b, 1, none⟩ = some (.iface 82 (.pointer (some aL))) := by simp [World.cell?, show w.heap[b]? = _ from hat, errL]
  have hb := World.block_lt_of_cell? _ _ c0
  have hbn : ∀ o, Below w.heap.size w (w.alloc o) := fun o => (Below.refl _ _).alloc (Nat.le_refl _) _
  have HB := Lib.hid hbn; clear hbn
  have HE := Lib.hid hE; clear hE
  have HA := Lib.hid hA; clear hA hat
  have hta := assert_at
  have hP := fun W => placed_any 101 p W rfl
  unfold faultV at hP ⊢
  have HP := Lib.hid hP; clear hP
  unfold errVal
  go_enter Tryd.func16, Tryd.ntmps16
  go_wp2
  have hZ : Below w.heap.size w (w.alloc (Obj.cells #[Value.int IntKind.i64 0, Value.bool false, Value.int IntKind.i64 0] 30)) := HB.out _
  obtain ⟨W, hW⟩ : ∃ W, w.alloc (Obj.cells #[Value.int IntKind.i64 0, Value.bool false, Value.int IntKind.i64 0] 30) = W := ⟨_, rfl⟩
  have hWs : W.heap.size = w.heap.size + 1 := by rw [← hW]; simp
  have hWr : W.heap[w.heap.size]? = some (Obj.cells #[Value.int IntKind.i64 0, Value.bool false, Value.int IntKind.i64 0] 30) := by rw [← hW]; show (w.heap.push _)[_]? = _; simp
  rw [hW] at hZ
  rw [hW]
  clear hW
  have HZ := Lib.hid hZ; clear hZ
  have HWR := Lib.hid hWr; clear hWr
  have e0 : W.cell? ⟨b, 0, none⟩ = some (.int .i64 p) := (HZ.out.cell (p := ⟨b, 0, none⟩) hb).trans c0
  have e1 : W.cell? ⟨b, 1, none⟩ = some (.iface 82 (.pointer (some aL))) := (HZ.out.cell (p := ⟨b, 1, none⟩) hb).trans c1
  clear c0 c1
  go_region_with (first
    | (go_at_call 35; refine (sentinel_any aL _ ?_ ?_).mono ?_
       · exact (HZ.out.cell (p := ⟨0, 0, none⟩) (World.block_lt_of_cell? _ _ HE.out)).trans HE.out
       · exact HA.out.later HZ.out.drew
       rintro e w1 ⟨rfl, hb1⟩
       have f0 : w1.cell? ⟨b, 0, none⟩ = some (.int .i64 p) := (hb1.cell (p := ⟨b, 0, none⟩) (by show b < W.heap.size; omega)).trans e0
       have HB1 := Lib.hid hb1; clear hb1)
    | (go_at_call 27; refine (HP.out _).mono ?_; rintro e w2 ⟨rfl, hb2⟩
       have hb3 := (HB1.out.trans (hb2.mono HB1.out.size))
       have hr : w2.heap[w.heap.size]? = _ := (hb3.block _ (by show w.heap.size < W.heap.size; omega)).trans HWR.out
       have g0 : w2.cell? ⟨w.heap.size, 0, none⟩ = some (.int .i64 0) := by simp [World.cell?, hr]
       have g1 : w2.cell? ⟨w.heap.size, 1, none⟩ = some (.bool false) := by simp [World.cell?, hr]
       have g2 : w2.cell? ⟨w.heap.size, 2, none⟩ = some (.int .i64 0) := by simp [World.cell?, hr]
       have k0 : w2.frozen? ⟨w.heap.size, 0, none⟩ = false := by simp [World.frozen?, hr]
       have k1 : w2.frozen? ⟨w.heap.size, 1, none⟩ = false := by simp [World.frozen?, hr]
       have k2 : w2.frozen? ⟨w.heap.size, 2, none⟩ = false := by simp [World.frozen?, hr]
       have HB3 := Lib.hid hb3; clear hb3 hr hb2))
  all_goals clear HP HB
  all_goals go_wp2
  all_goals exact bodyPost_ret (v := .agg #[.int .i64 101, .bool true, .int .i64 p]) (by simp [results, Tryd.results16, go_sem, g0, g1, g2]) rfl ⟨rfl, (((HZ.out.drew.trans (HB3.out.mono (by show w.heap.size ≤ W.heap.size; omega))).setCell (p := ⟨w.heap.size, 0, none⟩) (Nat.le_refl _) _).setCell (p := ⟨w.heap.size, 1, none⟩) (Nat.le_refl _) _).setCell (p := ⟨w.heap.size, 2, none⟩) (Nat.le_refl _) _⟩

set_option maxHeartbeats 2000000 in
theorem same_gen (ev : Value) (c p : Int) (pl : Bool) (w : World)
    (hF : ∀ W, Below w.heap.size w W → Calls Tryd.prog 16 #[ev] W fun e w' => e = .returned (faultV c pl p) ∧ Below W.heap.size W w') :
    Calls Tryd.prog 13 #[ev, faultV c pl p] w fun e w' => e = .returned (.bool true) ∧ Below w.heap.size w w' := by
  have HF := Lib.hid hF; clear hF
  have HS := Lib.hid (fun W => sameFault_eq c p pl W)
  have HZ := Lib.hid ((Below.refl w.heap.size w).alloc (Nat.le_refl _) (Obj.cells #[Value.int IntKind.i64 c, Value.bool pl, Value.int IntKind.i64 p] 30))
  unfold faultV at HF HS ⊢
  go_enter Tryd.func13, Tryd.ntmps13
  go_wp2_with fail
  obtain ⟨W, hW⟩ : ∃ W, w.alloc (Obj.cells #[Value.int IntKind.i64 c, Value.bool pl, Value.int IntKind.i64 p] 30) = W := ⟨_, rfl⟩
  have hWs : W.heap.size = w.heap.size + 1 := by rw [← hW]; simp
  have c0 : W.cell? ⟨w.heap.size, 0, none⟩ = some (.int .i64 c) := by rw [← hW]; simp
  have c1 : W.cell? ⟨w.heap.size, 1, none⟩ = some (.bool pl) := by rw [← hW]; simp
  have c2 : W.cell? ⟨w.heap.size, 2, none⟩ = some (.int .i64 p) := by rw [← hW]; simp
  rw [hW] at HZ
  rw [hW]
  clear hW
  go_region_with (first
    | (go_at_call 16; refine (HF.out _ HZ.out.drew).mono ?_; rintro e w1 ⟨rfl, hb1⟩
       have d0 : w1.cell? ⟨w.heap.size, 0, none⟩ = some (.int .i64 c) := (hb1.cell (p := ⟨w.heap.size, 0, none⟩) (by show w.heap.size < W.heap.size; omega)).trans c0
       have d1 : w1.cell? ⟨w.heap.size, 1, none⟩ = some (.bool pl) := (hb1.cell (p := ⟨w.heap.size, 1, none⟩) (by show w.heap.size < W.heap.size; omega)).trans c1
       have d2 : w1.cell? ⟨w.heap.size, 2, none⟩ = some (.int .i64 p) := (hb1.cell (p := ⟨w.heap.size, 2, none⟩) (by show w.heap.size < W.heap.size; omega)).trans c2
       have HB1 := Lib.hid (HZ.out.drew.trans (hb1.mono (by show w.heap.size ≤ W.heap.size; omega))); have hs1 := hb1.size; clear hb1)
    | (go_at_call 17; refine (HS.out _).mono ?_; rintro e w2 ⟨rfl, hb2⟩))
  all_goals go_wp2
  all_goals go_ret
  all_goals exact ⟨rfl, HB1.out.trans (hb2.mono HB1.out.size)⟩

theorem same_at (aL : Addr) (b p : Nat) (w : World) (hE : w.cell? ⟨0, 0, none⟩ = some (errL aL)) (hA : ErrsAt w) (hat : AtBlock w b p (errL aL)) :
    Calls Tryd.prog 13 #[errVal b, faultV 101 true p] w fun e w' => e = .returned (.bool true) ∧ Below w.heap.size w w' :=
  same_gen _ _ _ _ w fun W hW => fault_at aL b p W ((hW.cell (p := ⟨0, 0, none⟩) (World.block_lt_of_cell? _ _ hE)).trans hE) (hA.later hW)
    ((hW.block b (Array.getElem?_eq_some_iff.1 hat).1).trans hat)

theorem none_any (w : World) : Calls Tryd.prog 14 #[] w fun e w' => e = .returned (faultV 0 false 0) ∧ Below w.heap.size w w' := by
  go_enter Tryd.func14, Tryd.ntmps14
  go_wp2
  exact bodyPost_ret (v := faultV 0 false 0) (by simp [results, Tryd.results14, go_sem, faultV]) rfl ⟨rfl, (Below.refl _ _).alloc (Nat.le_refl _) _⟩

set_option maxHeartbeats 1000000 in
theorem fault_nil (w : World) : Calls Tryd.prog 16 #[.nilIface] w fun e w' => e = .returned (faultV 0 false 0) ∧ Below w.heap.size w w' := by
  have HN := Lib.hid (fun W => none_any W)
  have HZ := Lib.hid ((Below.refl w.heap.size w).alloc (Nat.le_refl _) (Obj.cells #[Value.int IntKind.i64 0, Value.bool false, Value.int IntKind.i64 0] 30))
  unfold faultV at HN ⊢
  go_enter Tryd.func16, Tryd.ntmps16
  go_wp2_with fail
  refine (HN.out _).mono ?_
  rintro e w2 ⟨rfl, hb2⟩
  have hr : w2.heap[w.heap.size]? = some (Obj.cells #[Value.int IntKind.i64 0, Value.bool false, Value.int IntKind.i64 0] 30) :=
    (hb2.block _ (by simp)).trans (by show (w.heap.push _)[_]? = _; simp)
  have g0 : w2.cell? ⟨w.heap.size, 0, none⟩ = some (.int .i64 0) := by simp [World.cell?, hr]
  have g1 : w2.cell? ⟨w.heap.size, 1, none⟩ = some (.bool false) := by simp [World.cell?, hr]
  have g2 : w2.cell? ⟨w.heap.size, 2, none⟩ = some (.int .i64 0) := by simp [World.cell?, hr]
  have k0 : w2.frozen? ⟨w.heap.size, 0, none⟩ = false := by simp [World.frozen?, hr]
  have k1 : w2.frozen? ⟨w.heap.size, 1, none⟩ = false := by simp [World.frozen?, hr]
  have k2 : w2.frozen? ⟨w.heap.size, 2, none⟩ = false := by simp [World.frozen?, hr]
  have HB := Lib.hid (HZ.out.trans (hb2.mono (by simp)))
  clear hb2 hr HN
  go_wp2
  exact bodyPost_ret (v := .agg #[.int .i64 0, .bool false, .int .i64 0]) (by simp [results, Tryd.results16, go_sem, g0, g1, g2]) rfl ⟨rfl, ((HB.out.setCell (p := ⟨w.heap.size, 0, none⟩) (Nat.le_refl _) _).setCell (p := ⟨w.heap.size, 1, none⟩) (Nat.le_refl _) _).setCell (p := ⟨w.heap.size, 2, none⟩) (Nat.le_refl _) _⟩
end Go.Proofs.YtnlpilceooncmaaDoor
