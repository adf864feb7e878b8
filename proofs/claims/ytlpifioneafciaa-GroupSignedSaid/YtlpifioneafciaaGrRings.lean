/- group.rings. -/
import Derived.Test.YtlpifioneafciaaGrRingR
namespace Go.Proofs.Ytlpifioneafciaa
open Go.RowKit Go.Maps Go.Lib
attribute [local go_sem] Oper.semAt_some

/-- So many nodes are gone through, from s0 on. -/
def RA (n : Nat) (s0 : SS) : Nat → SS → Prop
  | 0, t => t = s0
  | j + 1, t => ∃ u, RA n s0 j u ∧ ((u.met j = 0 ∧ ∃ k, t = SS.run k (u.meet j) ∧ t.path = []) ∨ (u.met j ≠ 0 ∧ t = u))
theorem unmet_init (n : Nat) (needs : Nat → List Nat) : unmet n (grInit needs) = n := by
  unfold unmet grInit
  simp
theorem init_idle {n : Nat} {needs : Nat → List Nat} (h : ∀ i, i < n → ∀ x ∈ needs i, x < n) : Idle n (grInit needs) :=
  ⟨h, rfl, rfl, fun i _ => .inl rfl, by have := unmet_init n needs; show 0 + _ = n; omega, Nat.le_refl _⟩
set_option maxRecDepth 100000 in
set_option maxHeartbeats 8000000 in
theorem rings_any {g n cap : Nat} {needs : Nat → List Nat} (w : World) (h : RowsAt w.heap.size g n needs w) (h0 : 0 ≤ n) (hn : n < 100000000) (hne : ∀ i, i < n → ∀ x ∈ needs i, x < n) (hL : leftN n (grInit needs) < 1000000000) :
    Calls Try.prog 17 #[.slice (some ⟨g, 0, none⟩) n cap] w fun e w' => (∃ (t : SS) (qr : Nat), e = .returned (.tuple #[.slice (some ⟨qr, 0, none⟩) n n, .int .i64 (t.rings : Int)]) ∧ OwnI w.heap.size (.slice (some ⟨qr, 0, none⟩) n n) ((List.range n).map t.ring) w' ∧ RA n (grInit needs) n t ∧ Idle n t) ∧ Below w.heap.size w w' := by
  have H0 := Lib.hid h
  have HI := Lib.hid (init_idle hne)
  clear h hne
  go_enter Try.func17, Try.ntmps17
  go_wp2_with fail
  refine grr_here (w := w) (B := w.heap.size) (n := n) (gn := g) (cap := cap) (needs := needs) h0 (by omega) _ (by kernel_rfl) (by kernel_rfl) (by kernel_rfl) (by kernel_rfl) ⟨H0.out.below (below_dG w) (Nat.le_refl _), Nat.le_refl _, below_dG w⟩ ?_
  intro x V p qs cs qm ql qr e9 hS hB
  have HS := Lib.hid hS
  have HB := Lib.hid hB
  clear hS hB H0
  simp only [grrFr, e9]
  simp only [Array.getD_eq_getD_getElem?, List.getElem?_toArray, List.getElem?_cons_succ, List.getElem?_cons_zero, Option.getD_some]
  go_wp2_with fail
  go_loopw [6, 19] (fun _ vi wr => ∃ (j : Nat) (t : SS) (pv ov : Value), j ≤ n ∧ vi = .int .i64 j ∧ Hid (RA n (grInit needs) j t ∧ Idle n t ∧ leftN n t < 1000000000) ∧ Hid (SM w.heap.size p n qs cs qm ql qr pv ov t wr) ∧ Hid (Below w.heap.size w wr)) (fun _ vi _ => n - (RowKit.intOf vi).toNat)
  case atStart => exact ⟨0, grInit needs, nilS, nilS, Nat.zero_le _, rfl, Lib.hid ⟨rfl, HI.out, hL⟩, HS, HB⟩
  case round =>
    obtain ⟨j, t, pv, ov, hj, rfl, hT, hM, hW⟩ := hrel
    clear HS HB HI
    obtain ⟨y0, y1, y2, y3, y4, y5, y6, y7⟩ := cells8 hM.out.blk
    by_cases hlt : j < n
    · have hjI : (j : Int) < (n : Int) := by omega
      have hj0 : (0 : Int) ≤ (j : Int) := by omega
      obtain ⟨z1, z2, z3⟩ := row_cell hM.out.met hlt
      by_cases hz : t.met j = 0
      · have HF := Lib.hid (from_any (v0 := j) hT.out.2.1 hlt hz hn hT.out.2.2 wr hM.out)
        have HZ := Lib.hid hz
        go_wp2_with (go_at_call 24; fail)
        refine HF.out.mono ?_
        rintro e w5 ⟨rfl, ⟨pv5, ov5, k, h5, hi5, hl5⟩, hb5⟩
        have H5 := Lib.hid h5
        have HT5 := Lib.hid (show RA n (grInit needs) (j + 1) (SS.run k (t.meet j)) ∧ Idle n (SS.run k (t.meet j)) ∧ leftN n (SS.run k (t.meet j)) < 1000000000 from ⟨⟨t, hT.out.1, .inl ⟨HZ.out, k, rfl, hi5.path⟩⟩, hi5, Nat.lt_of_le_of_lt hl5 hT.out.2.2⟩)
        have HB5 := Lib.hid (hW.out.trans hb5)
        clear h5 hi5 hl5 hb5 HF hz z1 z2 z3 y0 y1 y2 y3 y4 y5 y6 y7
        go_wp2_with fail
        go_roundw
        case rel => exact ⟨j + 1, _, pv5, ov5, by omega, by go_num, HT5, H5, HB5⟩
        case measure => simp [RowKit.intOf]; omega
      · have HT5 := Lib.hid (show RA n (grInit needs) (j + 1) t ∧ Idle n t ∧ leftN n t < 1000000000 from ⟨⟨t, hT.out.1, .inr ⟨hz, rfl⟩⟩, hT.out.2⟩)
        go_wp2_with fail
        go_roundw
        case rel => exact ⟨j + 1, t, pv, ov, by omega, by go_num, HT5, hM, hW⟩
        case measure => simp [RowKit.intOf]; omega
    · obtain rfl : j = n := by omega
      have hjI : ¬ ((j : Int) < (j : Int)) := by omega
      have HE := Lib.hid (And.intro hM.out.ring (And.intro hT.out.1 hT.out.2.1))
      clear hT
      go_wp2_with fail
      go_region
      go_wp2_with fail
      exact bodyPost_ret (v := .tuple #[.slice (some ⟨qr, 0, none⟩) j j, .int .i64 (t.rings : Int)]) (by simp [results, Try.results17, go_sem]) rfl ⟨⟨t, qr, rfl, HE.out.1.drew, HE.out.2.1, HE.out.2.2⟩, hW.out.drew⟩
end Go.Proofs.Ytlpifioneafciaa
