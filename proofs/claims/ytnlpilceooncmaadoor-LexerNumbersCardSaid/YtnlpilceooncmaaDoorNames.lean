/- LexerNames' own law, walked. -/
import Derived.Test.YtnlpilceooncmaaDoorSee
import Derived.Test.YtnlpilceooncmaaDoorWords
import Derived.Test.YtnlpilceooncmaaDoorNamesPlain
namespace Go.Proofs.YtnlpilceooncmaaDoor
open Go.RowKit

set_option maxHeartbeats 1000000 in
theorem number_any (z : Int) (n : Nat) (w : World) (_ : -9223372036854775808 ≤ z) (_ : z ≤ 9223372036854775807) (hn0 : 0 < n) (hn : n ≤ 1000) :
    Calls Tryd.prog 26 #[.int .i64 z, .int .i64 (n : Int)] w fun e w' => ∃ r : Nat, r < n ∧ e = .returned (.int .i64 (r : Int)) ∧ w = w' := by
  have k1 := Int.tmod_lt_of_pos z (show (0 : Int) < (n : Int) by omega)
  have k2 := Int.lt_tmod_of_pos z (show (0 : Int) < (n : Int) by omega)
  obtain ⟨q, hq⟩ : ∃ q, z.tmod (n : Int) = q := ⟨_, rfl⟩
  rw [hq] at k1 k2
  have hn1 : ((n : Int) == 0) = false := by simp; omega
  go_enter Tryd.func26, Tryd.ntmps26
  go_wp2
  · go_ret
    exact ⟨(q + n).toNat, by omega, ret_int (by omega), rfl⟩
  · go_ret
    exact ⟨q.toNat, by omega, ret_int (by omega), rfl⟩

theorem pat_at (i : Nat) (h : i % 7 < 7) : (⟨#[97, 98, 90, 57, 95, 39, 120]⟩ : ByteArray)[i % 7]'h = patB i := by
  unfold patB
  generalize i % 7 = j at h
  match j, h with
  | 0, _ => rfl
  | 1, _ => rfl
  | 2, _ => rfl
  | 3, _ => rfl
  | 4, _ => rfl
  | 5, _ => rfl
  | 6, _ => rfl
  | n + 7, h => omega
theorem cell_two_new (w : World) (a b : UInt8) (t : TypeId) : ∀ j u, (byteVals [a, b])[j]? = some u → (w.alloc (.cells #[.int .u8 (a.toNat : Int), .int .u8 (b.toNat : Int)] t)).cell? ((⟨w.heap.size, 0, none⟩ : Addr).add j) = some u := by
  intro j u hu
  rw [add_plain]
  have := World.alloc_heap_new w (.cells #[.int .u8 (a.toNat : Int), .int .u8 (b.toNat : Int)] t)
  simp only [World.cell?, this]
  match j, hu with
  | 0, hu => simpa [byteVals] using hu
  | 1, hu => simpa [byteVals] using hu
  | n + 2, hu => simp [byteVals] at hu
theorem kind_let : kindOf (⟨#[108, 101, 116]⟩ : ByteArray).data.toList = 6 := by kernel_rfl
theorem kind_us : kindOf (⟨#[95]⟩ : ByteArray).data.toList = 6 := by kernel_rfl
theorem low_let (W : World) : Calls Tryd.prog 18 #[.string ⟨#[108, 101, 116]⟩] W fun e w' => e = .returned (.bool false) ∧ w' = W :=
  (low_any _ W (by decide)).mono fun _ _ ⟨he, hw⟩ => ⟨he.trans (ret_bool (by rw [kind_let]; rfl)), hw.symm⟩
theorem low_us (W : World) : Calls Tryd.prog 18 #[.string ⟨#[95]⟩] W fun e w' => e = .returned (.bool false) ∧ w' = W :=
  (low_any _ W (by decide)).mono fun _ _ ⟨he, hw⟩ => ⟨he.trans (ret_bool (by rw [kind_us]; rfl)), hw.symm⟩
theorem high_let (W : World) : Calls Tryd.prog 20 #[.string ⟨#[108, 101, 116]⟩] W fun e w' => e = .returned (.bool false) ∧ w' = W :=
  (high_any _ W (by decide)).mono fun _ _ ⟨he, hw⟩ => ⟨he.trans (ret_bool (by rw [kind_let]; rfl)), hw.symm⟩
theorem reserved_of (W : World) : Calls Tryd.prog 24 #[.string ⟨#[111, 102]⟩] W fun e w' => e = .returned (.bool true) ∧ w' = W :=
  (reserved_any _ W).mono fun _ _ ⟨he, hw⟩ => ⟨he.trans (ret_bool (by simp [inL, wordsL])), hw.symm⟩

set_option maxHeartbeats 4000000 in
set_option maxRecDepth 100000 in
theorem names_true (z : Int) (c : UInt8) (aL : Addr) (w : World) (h1 : -9223372036854775808 ≤ z) (h2 : z ≤ 9223372036854775807) (hE : w.cell? ⟨0, 0, none⟩ = some (errL aL)) (hA : ErrsAt w) :
    Calls Tryd.prog 6 #[.int .i64 z, .bool true, .int .u8 (c.toNat : Int)] w fun e w' => e = .returned (.bool true) ∧ Below w.heap.size w w' := by
  have hg := World.block_lt_of_cell? _ _ hE
  have HE := Lib.hid hE; clear hE
  have HA := Lib.hid hA; clear hA
  have HN := Lib.hid (fun W => number_any z 50 W h1 h2 (by decide) (by decide))
  clear h1 h2
  go_enter Tryd.func6, Tryd.ntmps6
  go_wp2_with (first | (go_at_call 9; refine (first_any aL _ HE.out).mono ?_; rintro e w1 ⟨rfl, hb1⟩) | (go_at_call 26; refine (HN.out _).mono ?_; rintro e w2 ⟨r, hr, rfl, rfl⟩))
  have hG0 : Grows (w1.alloc (.cells #[.int .u8 81] 5)) w.heap.size (.slice (some ⟨w1.heap.size, 0, none⟩) 1 1) (nm true 0) := .inr ⟨w1.heap.size, _, rfl, hb1.size, World.alloc_heap_new w1 _⟩
  have hB0 : Below w.heap.size w (w1.alloc (.cells #[.int .u8 81] 5)) := hb1.alloc hb1.size _
  clear HN
  go_loopw [8, 9] (fun vb vi wr => ∃ (m : Nat) (bv : Value), bv = vb ∧ vi = .int .i64 ((m : Int) + 1) ∧ m ≤ r ∧ Grows wr w.heap.size bv (nm true m) ∧ Below w.heap.size w wr) (fun _ vi _ => r + 1 - (intOf vi).toNat)
  case atStart => exact ⟨0, _, rfl, rfl, Nat.zero_le _, hG0, hB0⟩
  case round =>
    obtain ⟨m, bv, rfl, rfl, hm, hG, hB⟩ := hrel
    have hsB := hB.size
    clear hG0 hB0
    by_cases hlt : m < r
    · have hq : ((m : Int) + 1).tmod 7 = ((m + 1) % 7 : Nat) := by rw [Int.tmod_eq_emod_of_nonneg (by omega)]; omega
      have hq7 : (m + 1) % 7 < 7 := Nat.mod_lt _ (by decide)
      have hp : (⟨#[97, 98, 90, 57, 95, 39, 120]⟩ : ByteArray)[(m + 1) % 7]'hq7 = patB (m + 1) := pat_at (m + 1) hq7
      have hnl := nm_length true m
      obtain ⟨v', w2, hr2, hG2, hgr⟩ := app_slice (hG.later ((Below.refl _ wr).alloc (Nat.le_refl _) (.cells #[.int .u8 ((patB (m + 1)).toNat : Int)] 5))) (by simp; omega) ⟨wr.heap.size, 0, none⟩ [patB (m + 1)] 1 (cell_one_new _ _ _) (by simp) (by simp; omega)
      have hB2 := (hB.alloc hsB (.cells #[.int .u8 ((patB (m + 1)).toNat : Int)] 5)).grown hgr (by simp; omega) (fun j e => (grows_block hG e))
      rw [← nm_snoc] at hG2
      have Hr := Lib.hid hr2; clear hr2 hgr
      clear hnl
      go_wp2_with (at_builtin; refine Lib.wpList_append_run _ rfl _ _ 22 22 rfl _ _ rfl rfl _ _ Hr.out ?_)
      go_roundw
      case rel => exact ⟨m + 1, _, rfl, by go_num, by omega, hG2, hB2⟩
      case measure => simp [intOf]; omega
    · obtain rfl : m = r := by omega
      have hnl := nm_length true m
      have hby := hG.bytes
      have hE1 := (hB.cell (p := ⟨0, 0, none⟩) hg).trans HE.out
      have HE1 := Lib.hid hE1; clear hE1
      have hsz : (⟨(nm true m).toArray⟩ : ByteArray).size ≤ 20000 := by show (nm true m).toArray.size ≤ _; simp; omega
      go_wp2_with fail
      by_cases h40 : 40 ≤ m
      · refine (split_any bv _ hsz aL [] (some 0) (nm_bad true m h40) _ hby HE1.out).mono ?_
        rintro e w3 ⟨hb3, (⟨h, _⟩ | ⟨p, b, h, rfl, hat⟩)⟩
        · cases h
        · obtain rfl : 0 = p := by simpa using h
          have hby3 := hby.later hb3
          obtain ⟨a, cap, rfl, _⟩ := id hby
          have hk : kindOf (⟨(nm true m).toArray⟩ : ByteArray).data.toList = 0 := (nm_kind true m).trans (if_pos h40)
          have hz : (⟨(nm true m).toArray⟩ : ByteArray).size = m + 1 := by show (nm true m).toArray.size = _; simp; omega
          obtain ⟨S, hS⟩ : ∃ S, (⟨(nm true m).toArray⟩ : ByteArray) = S := ⟨_, rfl⟩
          rw [hS] at hby hby3 hk hz hsz ⊢
          clear hS
          rw [hz] at hby3 ⊢
          have hsz' : S.size ≤ 1000000 := by omega
          have hB3 := hB.trans (hb3.mono hB.size)
          have HBY := Lib.hid hby3; clear hby3 hby hG
          have HE3 := Lib.hid ((hb3.cell (p := ⟨0, 0, none⟩) (World.block_lt_of_cell? _ _ HE1.out)).trans HE1.out)
          have HA3 := Lib.hid (HA.out.later hB3)
          have HAT := Lib.hid hat; clear hat
          clear HE1 HE HA hb3 hb1
          go_wp2_with (first
            | (go_at_call 27; refine (placed_any 101 0 _ rfl).mono ?_; rintro e w4 ⟨rfl, hb4⟩)
            | (go_at_call 13
               refine (same_at aL b 0 _ ((hb4.cell (p := ⟨0, 0, none⟩) (World.block_lt_of_cell? _ _ HE3.out)).trans HE3.out) (HA3.out.later hb4) ((hb4.block b (Array.getElem?_eq_some_iff.1 HAT.out).1).trans HAT.out)).mono ?_
               rintro e w5 ⟨rfl, hb5⟩
               have hB5 := Lib.hid (hb4.trans (hb5.mono hb4.size))
               have hcv := (HBY.out.later hB5.out).conv)
            | (go_at_call 18; refine (low_any S _ hsz').mono ?_; rintro e w6 ⟨rfl, rfl⟩)
            | (go_at_call 20; refine (high_any S _ hsz').mono ?_; rintro e w7 ⟨rfl, rfl⟩))
          go_ret
          exact ⟨rfl, hB3.trans (hB5.out.mono hB3.size)⟩
      · have hmt := nm_runs true m (by omega)
        refine (split_any bv _ hsz aL _ none hmt _ hby HE1.out).mono ?_
        rintro e w3 ⟨hb3, (⟨_, u, rfl, hrow⟩ | ⟨p, b, h, _⟩)⟩
        · rcases row_toks hrow with ⟨_, h⟩ | ⟨g, cap1, rfl, hg1, hg2, hcap1, ht⟩
          · cases h
          · have c2 : w3.cell? ⟨g, 2, none⟩ = some (.string ⟨(nm true m).toArray⟩) := (ht 0 (by simp)).2.2.1.trans (by
              rw [piece_eq _ _ _ (nm true m)]
              show ((nm true m).drop 0).take (m + 1) = _
              rw [List.drop_zero, ← hnl, List.take_length])
            have hby3 := hby.later hb3
            have hG3 := hG.later hb3
            have hB3 := hB.trans (hb3.mono hB.size)
            have hs3 := hB3.size
            obtain ⟨v', w4, hr4, hG4, hgr4⟩ := app_slice (hG3.later ((Below.refl _ w3).alloc (Nat.le_refl _) (.cells #[.int .u8 32, .int .u8 (c.toNat : Int)] 5))) (by simp; omega) ⟨w3.heap.size, 0, none⟩ [32, c] 2 (cell_two_new _ _ _ _) (by simp) (by simp; omega)
            have hB4 := (hB3.alloc hs3 (.cells #[.int .u8 32, .int .u8 (c.toNat : Int)] 5)).grown hgr4 (by simp; omega) (fun j e => grows_block hG3 e)
            have hg4 : w3.heap.size ≤ w4.heap.size := by have := hgr4.size; simp at this; omega
            have hby4 := hG4.bytes
            have Hr := Lib.hid hr4; clear hr4
            have c24 : w4.cell? ⟨g, 2, none⟩ = some (.string ⟨(nm true m).toArray⟩) := by
              have hne : bv.ownBlock ≠ some g := by
                rcases hG.cells with ⟨rfl, _⟩ | ⟨g0, _, _, _, hg0, _, hv, _⟩
                · simp [Value.ownBlock]
                · rw [hv]; intro e; cases e; omega
              exact (World.cell?_of_block (a := ⟨g, 2, none⟩) (hgr4.block g (by simp; omega) (fun e => hne e.symm))).trans (first_cell c2 _)
            obtain ⟨a, cap, rfl, _⟩ := id hby
            have hcv := hby3.conv
            have hk : kindOf (⟨(nm true m).toArray⟩ : ByteArray).data.toList = 2 := (nm_kind true m).trans (by rw [if_neg h40]; rfl)
            have hz : (⟨(nm true m).toArray⟩ : ByteArray).size = m + 1 := by show (nm true m).toArray.size = _; simp; omega
            have hz4 : (⟨(nm true m ++ [32, c]).toArray⟩ : ByteArray).size ≤ 20000 := by show (nm true m ++ [32, c]).toArray.size ≤ _; simp; omega
            obtain ⟨ts2, er2, hR2⟩ := nm_runs2 true m (by omega) c
            have htx : (({ data := (nm true m ++ [32, c]).toArray } : ByteArray).extract 0 (⟨(nm true m ++ [32, c]).toArray⟩ : ByteArray).size).extract 0 (m + 1) = ⟨(nm true m).toArray⟩ := by
              rw [piece_eq _ _ _ (nm true m)]
              show ((nm true m ++ [32, c]).drop 0).take (m + 1) = _
              rw [List.drop_zero, ← hnl, List.take_left]
            have HTX := Lib.hid htx; clear htx
            have HG4 := Lib.hid hG4; clear hG4
            obtain ⟨S, hS⟩ : ∃ S, (⟨(nm true m).toArray⟩ : ByteArray) = S := ⟨_, rfl⟩
            rw [hS] at hby hby3 hk hz hsz c2 c24 hcv HTX Hr ⊢
            simp only [List.length_cons, List.length_nil, Nat.zero_add]
            rw [hz] at hcv Hr ⊢
            have hsz' : S.size ≤ 1000000 := by omega
            have hE3 := (hB3.cell (p := ⟨0, 0, none⟩) hg).trans HE.out
            have HE4 := Lib.hid ((hB4.cell (p := ⟨0, 0, none⟩) hg).trans HE.out)
            have HBY4 := Lib.hid hby4; clear hby4
            have HR2 := Lib.hid hR2; clear hR2
            have HZ4 := Lib.hid hz4; clear hz4
            have HB4 := Lib.hid hB4; clear hB4
            clear hby3 hby hG hG3 hS hmt hrow hb1 hB hb3 hE3 hgr4 ht
            go_wp2_with (first
              | (go_at_call 18; refine (low_any S _ hsz').mono ?_; rintro e w6 ⟨rfl, rfl⟩)
              | (go_at_call 20; refine (high_any S _ hsz').mono ?_; rintro e w7 ⟨rfl, rfl⟩)
              | (at_builtin; refine Lib.wpList_append_run _ rfl _ _ 22 22 rfl _ _ rfl rfl _ _ Hr.out ?_))
            refine (split_any v' _ HZ4.out aL _ er2 HR2.out _ HBY4.out HE4.out).mono ?_
            rintro e w5 ⟨hb5, (⟨_, u2, rfl, hrow2⟩ | ⟨p, b, _, rfl, hat⟩)⟩
            · rcases row_toks hrow2 with ⟨_, h⟩ | ⟨g2, cap2, rfl, hg21, hg22, hcap2, ht2⟩
              · cases h
              · have d2 : w5.cell? ⟨g2, 2, none⟩ = some (.string S) := (ht2 0 (by simp)).2.2.1.trans (by rw [← HTX.out]; rfl)
                have d5 := (hb5.cell (p := ⟨g, 2, none⟩) (by show g < w4.heap.size; omega)).trans c24
                have hl2 : (⟨nmK true, 0, m + 1, 0⟩ :: ts2 : List Tok).length = ts2.length + 1 := rfl
                rw [hl2] at hcap2 ⊢
                clear ht2 hrow2 c24 c2 Hr HG4 hcap1 hl2
                have hp1 : (1 : Int) ≤ (ts2.length : Int) + 1 := by omega
                have hp0 : (0 : Int) < (ts2.length : Int) + 1 := by omega
                go_wp2
                go_quiet (first
                  | (go_at_call 18; first | exact Calls.quiet_of_same (low_let _) | exact Calls.quiet_of_same (low_us _))
                  | (go_at_call 20; exact Calls.quiet_of_same (high_let _))
                  | (go_at_call 24; exact Calls.quiet_of_same (reserved_of _)))
                go_wp2
                go_ret
                exact ⟨rfl, below_drewN (HB4.out.trans (hb5.mono HB4.out.size)) nq⟩
            · unfold errVal
              go_wp2
              go_quiet (first
                | (go_at_call 18; first | exact Calls.quiet_of_same (low_let _) | exact Calls.quiet_of_same (low_us _))
                | (go_at_call 20; exact Calls.quiet_of_same (high_let _))
                | (go_at_call 24; exact Calls.quiet_of_same (reserved_of _)))
              go_wp2
              go_ret
              exact ⟨rfl, below_drewN (HB4.out.trans (hb5.mono HB4.out.size)) nq⟩
        · cases h

set_option maxHeartbeats 4000000 in
set_option maxRecDepth 100000 in
theorem names_false (z : Int) (c : UInt8) (aL : Addr) (w : World) (h1 : -9223372036854775808 ≤ z) (h2 : z ≤ 9223372036854775807) (hE : w.cell? ⟨0, 0, none⟩ = some (errL aL)) (hA : ErrsAt w) :
    Calls Tryd.prog 6 #[.int .i64 z, .bool false, .int .u8 (c.toNat : Int)] w fun e w' => e = .returned (.bool true) ∧ Below w.heap.size w w' := by
  have hg := World.block_lt_of_cell? _ _ hE
  have HE := Lib.hid hE; clear hE
  have HA := Lib.hid hA; clear hA
  have HN := Lib.hid (fun W => number_any z 50 W h1 h2 (by decide) (by decide))
  clear h1 h2
  go_enter Tryd.func6, Tryd.ntmps6
  go_wp2_with (first | (go_at_call 9; refine (first_any aL _ HE.out).mono ?_; rintro e w1 ⟨rfl, hb1⟩) | (go_at_call 26; refine (HN.out _).mono ?_; rintro e w2 ⟨r, hr, rfl, rfl⟩))
  have hG0 : Grows (w1.alloc (.cells #[.int .u8 113] 5)) w.heap.size (.slice (some ⟨w1.heap.size, 0, none⟩) 1 1) (nm false 0) := .inr ⟨w1.heap.size, _, rfl, hb1.size, World.alloc_heap_new w1 _⟩
  have hB0 : Below w.heap.size w (w1.alloc (.cells #[.int .u8 113] 5)) := hb1.alloc hb1.size _
  clear HN
  go_loopw [8, 9] (fun vb vi wr => ∃ (m : Nat) (bv : Value), bv = vb ∧ vi = .int .i64 ((m : Int) + 1) ∧ m ≤ r ∧ Grows wr w.heap.size bv (nm false m) ∧ Below w.heap.size w wr) (fun _ vi _ => r + 1 - (intOf vi).toNat)
  case atStart => exact ⟨0, _, rfl, rfl, Nat.zero_le _, hG0, hB0⟩
  case round =>
    obtain ⟨m, bv, rfl, rfl, hm, hG, hB⟩ := hrel
    have hsB := hB.size
    clear hG0 hB0
    by_cases hlt : m < r
    · have hq : ((m : Int) + 1).tmod 7 = ((m + 1) % 7 : Nat) := by rw [Int.tmod_eq_emod_of_nonneg (by omega)]; omega
      have hq7 : (m + 1) % 7 < 7 := Nat.mod_lt _ (by decide)
      have hp : (⟨#[97, 98, 90, 57, 95, 39, 120]⟩ : ByteArray)[(m + 1) % 7]'hq7 = patB (m + 1) := pat_at (m + 1) hq7
      have hnl := nm_length false m
      obtain ⟨v', w2, hr2, hG2, hgr⟩ := app_slice (hG.later ((Below.refl _ wr).alloc (Nat.le_refl _) (.cells #[.int .u8 ((patB (m + 1)).toNat : Int)] 5))) (by simp; omega) ⟨wr.heap.size, 0, none⟩ [patB (m + 1)] 1 (cell_one_new _ _ _) (by simp) (by simp; omega)
      have hB2 := (hB.alloc hsB (.cells #[.int .u8 ((patB (m + 1)).toNat : Int)] 5)).grown hgr (by simp; omega) (fun j e => (grows_block hG e))
      rw [← nm_snoc] at hG2
      have Hr := Lib.hid hr2; clear hr2 hgr
      clear hnl
      go_wp2_with (at_builtin; refine Lib.wpList_append_run _ rfl _ _ 22 22 rfl _ _ rfl rfl _ _ Hr.out ?_)
      go_roundw
      case rel => exact ⟨m + 1, _, rfl, by go_num, by omega, hG2, hB2⟩
      case measure => simp [intOf]; omega
    · obtain rfl : m = r := by omega
      have hnl := nm_length false m
      have hby := hG.bytes
      have hE1 := (hB.cell (p := ⟨0, 0, none⟩) hg).trans HE.out
      have HE1 := Lib.hid hE1; clear hE1
      have hsz : (⟨(nm false m).toArray⟩ : ByteArray).size ≤ 20000 := by show (nm false m).toArray.size ≤ _; simp; omega
      go_wp2_with fail
      by_cases h40 : 40 ≤ m
      · refine (split_any bv _ hsz aL [] (some 0) (nm_bad false m h40) _ hby HE1.out).mono ?_
        rintro e w3 ⟨hb3, (⟨h, _⟩ | ⟨p, b, h, rfl, hat⟩)⟩
        · cases h
        · obtain rfl : 0 = p := by simpa using h
          have hby3 := hby.later hb3
          obtain ⟨a, cap, rfl, _⟩ := id hby
          have hk : kindOf (⟨(nm false m).toArray⟩ : ByteArray).data.toList = 0 := (nm_kind false m).trans (if_pos h40)
          have hz : (⟨(nm false m).toArray⟩ : ByteArray).size = m + 1 := by show (nm false m).toArray.size = _; simp; omega
          obtain ⟨S, hS⟩ : ∃ S, (⟨(nm false m).toArray⟩ : ByteArray) = S := ⟨_, rfl⟩
          rw [hS] at hby hby3 hk hz hsz ⊢
          clear hS
          rw [hz] at hby3 ⊢
          have hsz' : S.size ≤ 1000000 := by omega
          have hB3 := hB.trans (hb3.mono hB.size)
          have HBY := Lib.hid hby3; clear hby3 hby hG
          have HE3 := Lib.hid ((hb3.cell (p := ⟨0, 0, none⟩) (World.block_lt_of_cell? _ _ HE1.out)).trans HE1.out)
          have HA3 := Lib.hid (HA.out.later hB3)
          have HAT := Lib.hid hat; clear hat
          clear HE1 HE HA hb3 hb1
          go_wp2_with (first
            | (go_at_call 27; refine (placed_any 101 0 _ rfl).mono ?_; rintro e w4 ⟨rfl, hb4⟩)
            | (go_at_call 13
               refine (same_at aL b 0 _ ((hb4.cell (p := ⟨0, 0, none⟩) (World.block_lt_of_cell? _ _ HE3.out)).trans HE3.out) (HA3.out.later hb4) ((hb4.block b (Array.getElem?_eq_some_iff.1 HAT.out).1).trans HAT.out)).mono ?_
               rintro e w5 ⟨rfl, hb5⟩
               have hB5 := Lib.hid (hb4.trans (hb5.mono hb4.size))
               have hcv := (HBY.out.later hB5.out).conv)
            | (go_at_call 18; refine (low_any S _ hsz').mono ?_; rintro e w6 ⟨rfl, rfl⟩)
            | (go_at_call 20; refine (high_any S _ hsz').mono ?_; rintro e w7 ⟨rfl, rfl⟩))
          go_ret
          exact ⟨rfl, hB3.trans (hB5.out.mono hB3.size)⟩
      · have hmt := nm_runs false m (by omega)
        refine (split_any bv _ hsz aL _ none hmt _ hby HE1.out).mono ?_
        rintro e w3 ⟨hb3, (⟨_, u, rfl, hrow⟩ | ⟨p, b, h, _⟩)⟩
        · rcases row_toks hrow with ⟨_, h⟩ | ⟨g, cap1, rfl, hg1, hg2, hcap1, ht⟩
          · cases h
          · have c2 : w3.cell? ⟨g, 2, none⟩ = some (.string ⟨(nm false m).toArray⟩) := (ht 0 (by simp)).2.2.1.trans (by
              rw [piece_eq _ _ _ (nm false m)]
              show ((nm false m).drop 0).take (m + 1) = _
              rw [List.drop_zero, ← hnl, List.take_length])
            have hby3 := hby.later hb3
            have hG3 := hG.later hb3
            have hB3 := hB.trans (hb3.mono hB.size)
            have hs3 := hB3.size
            obtain ⟨v', w4, hr4, hG4, hgr4⟩ := app_slice (hG3.later ((Below.refl _ w3).alloc (Nat.le_refl _) (.cells #[.int .u8 32, .int .u8 (c.toNat : Int)] 5))) (by simp; omega) ⟨w3.heap.size, 0, none⟩ [32, c] 2 (cell_two_new _ _ _ _) (by simp) (by simp; omega)
            have hB4 := (hB3.alloc hs3 (.cells #[.int .u8 32, .int .u8 (c.toNat : Int)] 5)).grown hgr4 (by simp; omega) (fun j e => grows_block hG3 e)
            have hg4 : w3.heap.size ≤ w4.heap.size := by have := hgr4.size; simp at this; omega
            have hby4 := hG4.bytes
            have Hr := Lib.hid hr4; clear hr4
            have c24 : w4.cell? ⟨g, 2, none⟩ = some (.string ⟨(nm false m).toArray⟩) := by
              have hne : bv.ownBlock ≠ some g := by
                rcases hG.cells with ⟨rfl, _⟩ | ⟨g0, _, _, _, hg0, _, hv, _⟩
                · simp [Value.ownBlock]
                · rw [hv]; intro e; cases e; omega
              exact (World.cell?_of_block (a := ⟨g, 2, none⟩) (hgr4.block g (by simp; omega) (fun e => hne e.symm))).trans (first_cell c2 _)
            obtain ⟨a, cap, rfl, _⟩ := id hby
            have hcv := hby3.conv
            have hk : kindOf (⟨(nm false m).toArray⟩ : ByteArray).data.toList = 1 := (nm_kind false m).trans (by rw [if_neg h40]; rfl)
            have hz : (⟨(nm false m).toArray⟩ : ByteArray).size = m + 1 := by show (nm false m).toArray.size = _; simp; omega
            have hz4 : (⟨(nm false m ++ [32, c]).toArray⟩ : ByteArray).size ≤ 20000 := by show (nm false m ++ [32, c]).toArray.size ≤ _; simp; omega
            obtain ⟨ts2, er2, hR2⟩ := nm_runs2 false m (by omega) c
            have htx : (({ data := (nm false m ++ [32, c]).toArray } : ByteArray).extract 0 (⟨(nm false m ++ [32, c]).toArray⟩ : ByteArray).size).extract 0 (m + 1) = ⟨(nm false m).toArray⟩ := by
              rw [piece_eq _ _ _ (nm false m)]
              show ((nm false m ++ [32, c]).drop 0).take (m + 1) = _
              rw [List.drop_zero, ← hnl, List.take_left]
            have HTX := Lib.hid htx; clear htx
            have HG4 := Lib.hid hG4; clear hG4
            obtain ⟨S, hS⟩ : ∃ S, (⟨(nm false m).toArray⟩ : ByteArray) = S := ⟨_, rfl⟩
            rw [hS] at hby hby3 hk hz hsz c2 c24 hcv HTX Hr ⊢
            simp only [List.length_cons, List.length_nil, Nat.zero_add]
            rw [hz] at hcv Hr ⊢
            have hsz' : S.size ≤ 1000000 := by omega
            have hE3 := (hB3.cell (p := ⟨0, 0, none⟩) hg).trans HE.out
            have HE4 := Lib.hid ((hB4.cell (p := ⟨0, 0, none⟩) hg).trans HE.out)
            have HBY4 := Lib.hid hby4; clear hby4
            have HR2 := Lib.hid hR2; clear hR2
            have HZ4 := Lib.hid hz4; clear hz4
            have HB4 := Lib.hid hB4; clear hB4
            clear hby3 hby hG hG3 hS hmt hrow hb1 hB hb3 hE3 hgr4 ht
            go_wp2_with (first
              | (go_at_call 18; refine (low_any S _ hsz').mono ?_; rintro e w6 ⟨rfl, rfl⟩)
              | (go_at_call 20; refine (high_any S _ hsz').mono ?_; rintro e w7 ⟨rfl, rfl⟩)
              | (at_builtin; refine Lib.wpList_append_run _ rfl _ _ 22 22 rfl _ _ rfl rfl _ _ Hr.out ?_))
            refine (split_any v' _ HZ4.out aL _ er2 HR2.out _ HBY4.out HE4.out).mono ?_
            rintro e w5 ⟨hb5, (⟨_, u2, rfl, hrow2⟩ | ⟨p, b, _, rfl, hat⟩)⟩
            · rcases row_toks hrow2 with ⟨_, h⟩ | ⟨g2, cap2, rfl, hg21, hg22, hcap2, ht2⟩
              · cases h
              · have d2 : w5.cell? ⟨g2, 2, none⟩ = some (.string S) := (ht2 0 (by simp)).2.2.1.trans (by rw [← HTX.out]; rfl)
                have d5 := (hb5.cell (p := ⟨g, 2, none⟩) (by show g < w4.heap.size; omega)).trans c24
                have hl2 : (⟨nmK false, 0, m + 1, 0⟩ :: ts2 : List Tok).length = ts2.length + 1 := rfl
                rw [hl2] at hcap2 ⊢
                clear ht2 hrow2 c24 c2 Hr HG4 hcap1 hl2
                have hp1 : (1 : Int) ≤ (ts2.length : Int) + 1 := by omega
                have hp0 : (0 : Int) < (ts2.length : Int) + 1 := by omega
                go_wp2
                go_quiet (first
                  | (go_at_call 18; first | exact Calls.quiet_of_same (low_let _) | exact Calls.quiet_of_same (low_us _))
                  | (go_at_call 20; exact Calls.quiet_of_same (high_let _))
                  | (go_at_call 24; exact Calls.quiet_of_same (reserved_of _)))
                go_wp2
                go_ret
                exact ⟨rfl, below_drewN (HB4.out.trans (hb5.mono HB4.out.size)) nq⟩
            · unfold errVal
              go_wp2
              go_quiet (first
                | (go_at_call 18; first | exact Calls.quiet_of_same (low_let _) | exact Calls.quiet_of_same (low_us _))
                | (go_at_call 20; exact Calls.quiet_of_same (high_let _))
                | (go_at_call 24; exact Calls.quiet_of_same (reserved_of _)))
              go_wp2
              go_ret
              exact ⟨rfl, below_drewN (HB4.out.trans (hb5.mono HB4.out.size)) nq⟩
        · cases h

theorem names_any (z : Int) (g : Bool) (c : UInt8) (aL : Addr) (w : World) (h1 : -9223372036854775808 ≤ z) (h2 : z ≤ 9223372036854775807) (hE : w.cell? ⟨0, 0, none⟩ = some (errL aL)) (hA : ErrsAt w) :
    Calls Tryd.prog 6 #[.int .i64 z, .bool g, .int .u8 (c.toNat : Int)] w fun e w' => e = .returned (.bool true) ∧ Below w.heap.size w w' := by
  cases g
  · exact names_false z c aL w h1 h2 hE hA
  · exact names_true z c aL w h1 h2 hE hA
end Go.Proofs.YtnlpilceooncmaaDoor
