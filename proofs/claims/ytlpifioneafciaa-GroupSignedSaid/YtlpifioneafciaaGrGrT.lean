/- group.Groups of definitions that are all signed. -/
import Derived.Test.YtlpifioneafciaaGrRT
import Derived.Test.YtlpifioneafciaaGrSigL
namespace Go.Proofs.Ytlpifioneafciaa
open Go.RowKit Go.Maps Go.Lib
attribute [local go_sem] Oper.semAt_some

theorem bindV_len (s : Bool) (i : Nat) : (bindV s i).length = 15 := rfl
theorem bindsV_len (s : Bool) (n : Nat) : (bindsV s n).length = n * 15 := by
  induction n with
  | zero => rfl
  | succ n ih =>
    have e : bindsV s (n + 1) = bindsV s n ++ bindV s n := by unfold bindsV; rw [List.range_succ, List.flatMap_append]; simp
    rw [e, List.length_append, ih, bindV_len]; omega
theorem bindsV_get (s : Bool) {n i j : Nat} (hi : i < n) (hj : j < 15) : (bindsV s n)[i * 15 + j]? = (bindV s i)[j]? := by
  induction n with
  | zero => omega
  | succ n ih =>
    have e : bindsV s (n + 1) = bindsV s n ++ bindV s n := by unfold bindsV; rw [List.range_succ, List.flatMap_append]; simp
    rw [e]
    by_cases h : i < n
    · rw [List.getElem?_append_left (by rw [bindsV_len]; omega)]; exact ih h
    · obtain rfl : i = n := by omega
      rw [List.getElem?_append_right (by rw [bindsV_len]; omega), bindsV_len]
      congr 1; omega
/-- One definition's cells. -/
theorem bind_cells {B n i : Nat} {s : Bool} {v : Value} {w : World} (h : w.ownsRow B 45 15 v n (bindsV s n)) (hi : i < n) : ∃ g cap, v = .slice (some ⟨g, 0, none⟩) n cap ∧ g < w.heap.size ∧ ∀ j, j < 15 → w.cell? ⟨g, i * 15 + j, none⟩ = (bindV s i)[j]? := by
  rcases id h.2 with ⟨_, e⟩ | ⟨g, cap, cur, rfl, hB, hq, _⟩
  · omega
  · exact ⟨g, cap, rfl, heap_at hq, fun j hj => by rw [World.ownsRow.cellAt h (i * 15 + j) (by omega)]; exact bindsV_get s hi hj⟩
theorem nmB_inj : ∀ i, i < 13 → ∀ j, j < 13 → nmB i = nmB j → i = j := by decide
theorem nmB_size (i : Nat) : (nmB i).size ≤ 1000000 := by
  unfold nmB
  rw [ByteArray.size_append]
  exact (by decide : 1 + 1 ≤ 1000000)
set_option maxRecDepth 100000 in
set_option maxHeartbeats 8000000 in
theorem groupsT_any (n : Nat) (v : Value) (B : Nat) (W : World) (hn : n < 12) (_ : B ≤ W.heap.size) (h : W.ownsRow B 45 15 v n (bindsV true n)) :
    Calls Try.prog 12 #[v] W fun e w' => (∃ tv, e = .returned tv ∧ GsR W.heap.size tv ((List.range n).map fun i => [i]) w') ∧ Below W.heap.size W w' := by
  have hmr := fun w => make_rows n n (Nat.le_refl _) (by omega) w
  have hmm : ∀ (T : TypeId) (W : World), (Instr.makeMap T none).run Try.prog W = .ok (.map (some W.heap.size)) (W.alloc (.map #[] 0)) := fun _ _ => rfl
  have hsh : ∃ a c, v = .slice a n c := by
    rcases id h.2 with ⟨e, e2⟩ | ⟨q, cap, cur, e, _⟩
    · rw [e, e2]; exact ⟨_, _, rfl⟩
    · exact ⟨_, _, e⟩
  obtain ⟨va, vc, rfl⟩ := hsh
  have HV := Lib.hid h
  clear h
  go_enter Try.func12, Try.ntmps12
  go_wp2_with fail
  go_loopw [3, 21] (fun v3 vi X => ∃ i : Nat, i ≤ n ∧ v3 = .slice (some ⟨W.heap.size, 0, none⟩) n n ∧ vi = .int .i64 i ∧ Hid (Below W.heap.size W X) ∧ Hid (RT W.heap.size n (.slice (some ⟨W.heap.size, 0, none⟩) n n) (List.replicate n (.slice none 0 0)) (fun _ => []) X) ∧ Hid (MapV (W.heap.size + 1) 0 (fun _ => none) X)) (fun _ vi _ => n - (RowKit.intOf vi).toNat)
  case atStart =>
    have hr := RT.start W (Nat.le_refl W.heap.size) (show n ≤ 1000000 by omega)
    have hm := MapV.start (W.alloc (.cells (madeCells #[.slice none 0 0] n) 22))
    rw [show (W.alloc (.cells (madeCells #[.slice none 0 0] n) 22)).heap.size = W.heap.size + 1 by simp] at hm
    exact ⟨0, Nat.zero_le _, rfl, rfl, Lib.hid (((Below.refl _ W).alloc (Nat.le_refl _) _).alloc (by simp) _), Lib.hid (hr.below (below_allocG _ _)), Lib.hid hm⟩
  case round =>
    rename World => X
    obtain ⟨i, hin, rfl, rfl, HB, HR, HM⟩ := hrel
    by_cases hlt : i < n
    · have hltI : (i : Int) < (n : Int) := by omega
      have hi0 : (0 : Int) ≤ (i : Int) := by omega
      obtain ⟨g, cap, e, hg, hc⟩ := bind_cells HV.out hlt
      cases e
      have hx : ∀ j, j < 15 → X.cell? ⟨g, i * 15 + j, none⟩ = (bindV true i)[j]? := fun j hj => (World.cell?_of_block (a := ⟨g, i * 15 + j, none⟩) (HB.out.block g hg)).trans (hc j hj)
      have d0 : X.cell? ⟨g, i * 15, none⟩ = some (.string (nmB i)) := hx 0 (by omega)
      have d1 : X.cell? ⟨g, i * 15 + 1, none⟩ = some (.bool true) := hx 1 (by omega)
      have d2 : X.cell? ⟨g, i * 15 + 2, none⟩ = some (.slice none 0 0) := hx 2 (by omega)
      have d3 : X.cell? ⟨g, i * 15 + 3, none⟩ = some (.slice none 0 0) := hx 3 (by omega)
      have d4 : X.cell? ⟨g, i * 15 + 4, none⟩ = some (.int .i64 0) := hx 4 (by omega)
      have d5 : X.cell? ⟨g, i * 15 + 5, none⟩ = some (.string ⟨#[]⟩) := hx 5 (by omega)
      have d6 : X.cell? ⟨g, i * 15 + 6, none⟩ = some (.slice none 0 0) := hx 6 (by omega)
      have d7 : X.cell? ⟨g, i * 15 + 7, none⟩ = some (.int .i64 1) := hx 7 (by omega)
      have d8 : X.cell? ⟨g, i * 15 + 8, none⟩ = some (.int .i64 0) := hx 8 (by omega)
      have d9 : X.cell? ⟨g, i * 15 + 9, none⟩ = some (.string (nmB (i + 1))) := hx 9 (by omega)
      have d10 : X.cell? ⟨g, i * 15 + 10, none⟩ = some (.int .i64 0) := hx 10 (by omega)
      have d11 : X.cell? ⟨g, i * 15 + 11, none⟩ = some (.slice none 0 0) := hx 11 (by omega)
      have d12 : X.cell? ⟨g, i * 15 + 12, none⟩ = some (.slice none 0 0) := hx 12 (by omega)
      have d13 : X.cell? ⟨g, i * 15 + 13, none⟩ = some (.slice none 0 0) := hx 13 (by omega)
      have d14 : X.cell? ⟨g, i * 15 + 14, none⟩ = some (.int .i64 0) := hx 14 (by omega)
      have HB2 := Lib.hid (HB.out.alloc HB.out.size (.cells (bindV true i).toArray 45))
      have HR2 := Lib.hid (HR.out.below (below_allocG X (.cells (bindV true i).toArray 45)))
      have HM2 := Lib.hid (HM.out.below (below_allocG X (.cells (bindV true i).toArray 45)))
      clear hx hc HB HR HM
      go_wp2_with fail
      go_roundw
      case rel => exact ⟨i + 1, by omega, rfl, by go_num, HB2, HR2, HM2⟩
      case measure => simp [RowKit.intOf]; omega
    · obtain rfl : i = n := by omega
      have hltI : ¬ (i : Int) < (i : Int) := by omega
      go_wp2_with fail
      go_loopw [59] (fun vi X => ∃ k : Nat, k ≤ i ∧ vi = .int .i64 k ∧ Hid (Below W.heap.size W X) ∧ Hid (RT W.heap.size i (.slice (some ⟨W.heap.size, 0, none⟩) i i) (List.replicate i (.slice none 0 0)) (fun _ => []) X) ∧ Hid (MapV (W.heap.size + 1) 0 (fun _ => none) X)) (fun vi _ => i - (RowKit.intOf vi).toNat)
      case atStart => exact ⟨0, Nat.zero_le _, rfl, HB, HR, HM⟩
      case round =>
        clear HB HR HM X
        rename World => X
        obtain ⟨k, hki, rfl, HB, HR, HM⟩ := hrel
        by_cases hk : k < i
        · have hkI : (k : Int) < (i : Int) := by omega
          have hk0 : (0 : Int) ≤ (k : Int) := by omega
          obtain ⟨g, cap, e, hg, hc⟩ := bind_cells HV.out hk
          cases e
          have hx : ∀ j, j < 15 → X.cell? ⟨g, k * 15 + j, none⟩ = (bindV true k)[j]? := fun j hj => (World.cell?_of_block (a := ⟨g, k * 15 + j, none⟩) (HB.out.block g hg)).trans (hc j hj)
          have d0 : X.cell? ⟨g, k * 15, none⟩ = some (.string (nmB k)) := hx 0 (by omega)
          have d1 : X.cell? ⟨g, k * 15 + 1, none⟩ = some (.bool true) := hx 1 (by omega)
          have d2 : X.cell? ⟨g, k * 15 + 2, none⟩ = some (.slice none 0 0) := hx 2 (by omega)
          have d3 : X.cell? ⟨g, k * 15 + 3, none⟩ = some (.slice none 0 0) := hx 3 (by omega)
          have d4 : X.cell? ⟨g, k * 15 + 4, none⟩ = some (.int .i64 0) := hx 4 (by omega)
          have d5 : X.cell? ⟨g, k * 15 + 5, none⟩ = some (.string ⟨#[]⟩) := hx 5 (by omega)
          have d6 : X.cell? ⟨g, k * 15 + 6, none⟩ = some (.slice none 0 0) := hx 6 (by omega)
          have d7 : X.cell? ⟨g, k * 15 + 7, none⟩ = some (.int .i64 1) := hx 7 (by omega)
          have d8 : X.cell? ⟨g, k * 15 + 8, none⟩ = some (.int .i64 0) := hx 8 (by omega)
          have d9 : X.cell? ⟨g, k * 15 + 9, none⟩ = some (.string (nmB (k + 1))) := hx 9 (by omega)
          have d10 : X.cell? ⟨g, k * 15 + 10, none⟩ = some (.int .i64 0) := hx 10 (by omega)
          have d11 : X.cell? ⟨g, k * 15 + 11, none⟩ = some (.slice none 0 0) := hx 11 (by omega)
          have d12 : X.cell? ⟨g, k * 15 + 12, none⟩ = some (.slice none 0 0) := hx 12 (by omega)
          have d13 : X.cell? ⟨g, k * 15 + 13, none⟩ = some (.slice none 0 0) := hx 13 (by omega)
          have d14 : X.cell? ⟨g, k * 15 + 14, none⟩ = some (.int .i64 0) := hx 14 (by omega)
          have HB2 := Lib.hid (HB.out.alloc HB.out.size (.cells (bindV true k).toArray 45))
          have HR2 := Lib.hid (HR.out.below (below_allocG X (.cells (bindV true k).toArray 45)))
          have HM2 := Lib.hid (HM.out.below (below_allocG X (.cells (bindV true k).toArray 45)))
          have HF := Lib.hid (freev_any (ps := 0) (nn := 0) (nm := nmB (k + 1)) (vl := .slice none 0 0) (va := .slice none 0 0) (vb := .slice none 0 0) (X.alloc (.cells (bindV true k).toArray 45)) (nmB_size _))
          clear hx hc HB HR HM
          go_wp2_with (go_at_call 16; fail)
          refine HF.out.mono ?_
          rintro e Y ⟨⟨fg, fc, rfl, hfc, hfl⟩, hbY⟩
          have HB3 := Lib.hid (HB2.out.trans (hbY.mono HB2.out.size))
          have HR3 := Lib.hid (HR2.out.below hbY)
          have HM3 := Lib.hid (HM2.out.below hbY)
          have hlk := HM3.out.look (nmB (k + 1)) (by have := nmB_size (k + 1); unfold maxLen; omega)
          have HK := Lib.hid hfc
          clear hfc hfl hbY HB2 HR2 HM2 HF d0 d1 d2 d3 d4 d5 d6 d7 d8 d9 d10 d11 d12 d13 d14
          have hfk := HK.out
          go_wp2_with fail
          go_loopw [68] (fun vi Z => ∃ m : Nat, m ≤ 1 ∧ vi = .int .i64 m ∧ Z = Y) (fun vi _ => 1 - (RowKit.intOf vi).toNat)
          case atStart => exact ⟨0, by omega, rfl, rfl⟩
          case round =>
            obtain ⟨m, hm1, rfl, rfl⟩ := hrel
            by_cases hm : m < 1
            · obtain rfl : m = 0 := by omega
              go_wp2_with fail
              go_roundw
              case rel => exact ⟨1, by omega, by go_num, trivial⟩
              case measure => simp [RowKit.intOf]
            · obtain rfl : m = 1 := by omega
              go_wp2_with fail
              go_roundw
              case rel => exact ⟨k + 1, by omega, by go_num, HB3, HR3, HM3⟩
              case measure => simp [RowKit.intOf]; omega
        · obtain rfl : k = i := by omega
          have hkI : ¬ (k : Int) < (k : Int) := by omega
          have hs0 : sumN (fun _ : Nat => ([] : List Nat)) k < 1000000000 := by rw [sumN_none]; decide
          have HO := Lib.hid (order_any (n := k) (cap := k) X HR.out.rows (Nat.zero_le _) (by omega) (fun i _ x hx => (List.not_mem_nil hx).elim) hs0)
          have HB2 := Lib.hid HB.out
          clear HB HR HM hs0
          go_wp2_with (go_at_call 14; fail)
          refine HO.out.mono ?_
          rintro e w5 ⟨⟨tv, dn, t, B0, ok, rfl, hra, hgr, hno, htl, hB0, hok⟩, hb5⟩
          have hsp := spec_of (by unfold grTop; omega) (fun i _ x hx => (List.not_mem_nil hx).elim) hra hgr hno
          have hgs := gs0 hsp
          have hG := GsR.of (B := W.heap.size) htl (Nat.le_trans HB2.out.size hB0) fun k hk => Nat.le_trans HB2.out.size (hok k hk)
          rw [hgs] at hG
          have HG := Lib.hid hG
          have HB5 := Lib.hid (HB2.out.trans (hb5.mono HB2.out.size))
          clear hra hgr hno htl hsp hgs hG hb5 HO HB2
          go_wp2
          go_ret
          exact ⟨⟨tv, rfl, HG.out⟩, HB5.out⟩
end Go.Proofs.Ytlpifioneafciaa
