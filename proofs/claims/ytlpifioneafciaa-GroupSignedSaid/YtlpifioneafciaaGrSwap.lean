/- orderer's Swap. -/
import Derived.Test.YtlpifioneafciaaGrLess
namespace Go.Proofs.Ytlpifioneafciaa
open Go.RowKit Go.Maps Go.Lib
attribute [local go_sem] Oper.semAt_some

def swapN (l : List Nat) (i j : Nat) : List Nat := (l.set i (l.getD j 0)).set j (l.getD i 0)
theorem swapN_len (l : List Nat) (i j : Nat) : (swapN l i j).length = l.length := by simp [swapN]
theorem swapN_getD (l : List Nat) (i j k : Nat) (hi : i < l.length) (hj : j < l.length) : (swapN l i j).getD k 0 = if k = j then l.getD i 0 else if k = i then l.getD j 0 else l.getD k 0 := by
  unfold swapN
  simp only [List.getD_eq_getElem?_getD, List.getElem?_set, List.length_set]
  by_cases h1 : k = j
  · subst h1; simp [hj, hi]
  · by_cases h2 : k = i
    · subst h2; simp [hi, h1, Ne.symm h1]
    · simp [h1, h2, Ne.symm h1, Ne.symm h2, fun e : j = k => h1 e.symm, fun e : i = k => h2 e.symm]
theorem swapN_mem {l : List Nat} {i j x : Nat} (hi : i < l.length) (hj : j < l.length) (h : x ∈ swapN l i j) : x ∈ l := by
  rcases List.mem_or_eq_of_mem_set h with h | h
  · rcases List.mem_or_eq_of_mem_set h with h | h
    · exact h
    · rw [h]; simp [List.getD, hj]
  · rw [h]; simp [List.getD, hi]
set_option maxRecDepth 100000 in
set_option maxHeartbeats 4000000 in
theorem swap_any {B B0 b c qm qu qw i j : Nat} {rv : Value} {ms us : Nat → List Nat} {wt : Nat → Nat} {rd : List Nat} (w : World) (h : OM B B0 b c qm qu qw rv ms us wt rd w) (hi : i < rd.length) (hj : j < rd.length) (hrl : rd.length < 1000000000) :
    Calls Try.prog 61 #[.pointer (some ⟨b, 0, none⟩), .int .i64 (i : Int), .int .i64 (j : Int)] w fun e w' => e = .returned (.tuple #[]) ∧ OM B B0 b c qm qu qw rv ms us wt (swapN rd i j) w' ∧ FrO B b rv w rv w' := by
  obtain ⟨y0, y1, y2, y3⟩ := cells4G h.blk
  obtain ⟨q, cap, rfl, hq, hqB, hcap, z1⟩ := h.rdy.at hi
  obtain ⟨q', cap', e', _, _, _, z2⟩ := h.rdy.at hj
  cases e'
  have fz := fun k => h.rdy.free k
  have fi := fz i
  have fj := fz j
  have hpw := heap_at h.blk
  have S1 := h.rdy.setAt (r := i) (x := rd.getD j 0) rfl hi
  have S2 := S1.setAt (r := j) (x := rd.getD i 0) (by simp) hj
  have hbq : q ≠ b := fun e => own_ne h.rdy h.blk (by decide) (by rw [e]; rfl)
  have hk : ∀ k, k ≠ q → ((w.setCell ⟨q, i, none⟩ (.int .i64 ((rd.getD j 0 : Nat) : Int))).setCell ⟨q, j, none⟩ (.int .i64 ((rd.getD i 0 : Nat) : Int))).heap[k]? = w.heap[k]? := fun k hk => (heap_set _ ⟨q, j, none⟩ _ k hk).trans (heap_set w ⟨q, i, none⟩ _ k hk)
  have hsz : ((w.setCell ⟨q, i, none⟩ (.int .i64 ((rd.getD j 0 : Nat) : Int))).setCell ⟨q, j, none⟩ (.int .i64 ((rd.getD i 0 : Nat) : Int))).heap.size = w.heap.size := (size_set _ _ _).trans (size_set w _ _)
  have HO := Lib.hid (h.ready (Nat.le_of_eq hsz.symm) ((hk b (Ne.symm hbq)).trans h.blk) (fun k hkB _ => hk k (by omega)) S2 (fun x hx => h.inr x (swapN_mem hi hj hx)))
  have hBq : B ≤ q := by have := h.bb; omega
  have HF := Lib.hid (show FrO B b (.slice (some ⟨q, 0, none⟩) rd.length cap) w (.slice (some ⟨q, 0, none⟩) rd.length cap) _ from ⟨((Below.refl B w).setCell (p := ⟨q, i, none⟩) hBq (.int .i64 ((rd.getD j 0 : Nat) : Int))).setCell (p := ⟨q, j, none⟩) hBq (.int .i64 ((rd.getD i 0 : Nat) : Int)), fun k _ _ hk2 => hk k (fun e => hk2 (by rw [e]; rfl)), fun k e => .inl e⟩)
  have hSw : ((rd.set i (rd.getD j 0)).set j (rd.getD i 0)) = swapN rd i j := rfl
  rw [hSw] at HO
  have FZ := Lib.hid (fun k => S1.free k)
  clear h S1 S2 hk hsz fz hSw
  obtain ⟨x, hx⟩ : ∃ x, rd.getD i 0 = x := ⟨_, rfl⟩
  obtain ⟨y, hy⟩ : ∃ y, rd.getD j 0 = y := ⟨_, rfl⟩
  rw [hx] at z1 HO HF
  rw [hy] at z2 HO HF FZ
  obtain ⟨m, hm⟩ : ∃ m, rd.length = m := ⟨_, rfl⟩
  rw [hm] at y3 hcap hrl hi hj HO HF ⊢
  clear hx hy hm
  have hiI : (i : Int) < (m : Int) := by omega
  have hjI : (j : Int) < (m : Int) := by omega
  have z3 : (w.setCell ⟨q, i, none⟩ (.int .i64 (y : Int))).cell? ⟨q, j, none⟩ = some (.int .i64 (y : Int)) := by
    by_cases e : i = j
    · subst e; exact World.cell?_setCell_same (h := z1) ..
    · exact (World.cell?_setCell_other (a := ⟨q, i, none⟩) (b := ⟨q, j, none⟩) (h := fun h => e (by cases h; rfl)) ..).trans z2
  have z4 : (w.setCell ⟨q, i, none⟩ (.int .i64 (y : Int))).drew.cell? ⟨q, j, none⟩ = some (.int .i64 (y : Int)) := z3
  have f3 : (w.setCell ⟨q, i, none⟩ (.int .i64 (y : Int))).drew.frozen? ⟨q, j, none⟩ = false := FZ.out j
  clear z3
  go_enter Try.func61, Try.ntmps61
  go_wp2_with fail
  go_region
  generalize ((w.setCell ⟨q, i, none⟩ (.int .i64 (y : Int))).setCell ⟨q, j, none⟩ (.int .i64 (x : Int))) = W2 at *
  go_wp2_with fail
  go_end0
  exact ⟨rfl, HO.out.drew, HF.out.drewN 1⟩
end Go.Proofs.Ytlpifioneafciaa
