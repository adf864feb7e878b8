/- GroupOrders: the law's walk. -/
import Derived.Test.YtlpifioneafciaaGrOrdL
import Derived.BigQuiet
import Derived.Lib.QuietBelow
namespace Go.Proofs.Ytlpifioneafciaa
open Go.RowKit Go.Maps Go.Lib Go.Sort
attribute [local go_sem] Oper.semAt_some

set_option maxRecDepth 100000 in
set_option maxHeartbeats 8000000 in
theorem gorders_law (a0 : Option Addr) (zs : List Int) (c0 : Nat) (z : Int) (w : World) (h : IntsL w.heap.size a0 zs w) :
    Calls Try.prog 4 #[.slice a0 zs.length c0, .int .i64 z] w fun e w' => e = .returned (.bool true) ∧ Below w.heap.size w w' := by
  have HF := Lib.hid (first_any w)
  have H0 := Lib.hid h
  obtain ⟨L, hL⟩ : ∃ L, zs.length = L := ⟨_, rfl⟩
  have HL := Lib.hid hL
  rw [hL]
  clear h hL
  go_enter Try.func4, Try.ntmps4
  by_cases hl40 : L > 40
  · have hlI : (L : Int) > 40 := by omega
    have hlJ : (40 : Int) < (L : Int) := by omega
    go_wp2_with (go_at_call 7; fail)
    refine HF.out.mono ?_
    rintro e w1 ⟨rfl, hb1⟩
    have HB1 := Lib.hid hb1
    clear hb1 HF
    go_wp2
    go_ret
    exact ⟨rfl, HB1.out⟩
  · have hlI : ¬ (L : Int) > 40 := by omega
    have hlJ : ¬ (40 : Int) < (L : Int) := by omega
    obtain ⟨k1, k2, k3⟩ := kOf_eq (n := 15) (by omega) z
    have q1 := Int.tmod_lt_of_pos z (show (0 : Int) < ((15 : Nat) : Int) by omega)
    have q2 := Int.lt_tmod_of_pos z (show (0 : Int) < ((15 : Nat) : Int) by omega)
    rw [show (((15 : Nat) : Int)) = 15 from rfl] at k1 k2 q1 q2
    obtain ⟨r, hr⟩ : ∃ r, z.tmod 15 = r := ⟨_, rfl⟩
    rw [hr] at k1 k2 q1 q2
    obtain ⟨n, hn⟩ : ∃ n, kOf 15 z = n := ⟨_, rfl⟩
    rw [hn] at k1 k2 k3
    clear hn
    go_wp2_with (go_at_call 7; fail)
    refine HF.out.mono ?_
    rintro e w1 ⟨rfl, hb1⟩
    have HB1 := Lib.hid hb1
    have hN := needs_any (a := a0) (zs := zs) (cap := c0) (n := n) w1 ((H0.out.keep hb1).mono hb1.size) (by rw [HL.out]; omega) (by omega)
    rw [HL.out] at hN
    have HN := Lib.hid hN
    clear hb1 HF hN
    go_wp2_with (go_at_call 8; fail)
    refine HN.out.mono ?_
    rintro e w2 ⟨rfl, hT⟩
    obtain ⟨rv, hT, hB2⟩ := hT
    obtain ⟨nd, hnd⟩ : ∃ nd, ndOf n zs = nd := ⟨_, rfl⟩
    have hin : ∀ i, i < n → ∀ x ∈ nd i, x < n := fun i hi x hx => ndOf_in (show 0 < n by omega) zs i x (by rw [hnd]; exact hx)
    have hsum : sumN nd n ≤ 40 := by
      by_cases h0 : 0 < n
      · have := ndOf_sum h0 zs; rw [hnd, HL.out] at this; omega
      · obtain rfl : n = 0 := by omega
        exact Nat.zero_le _
    rw [hnd] at hT
    have HX := Lib.hid hT.rows
    have HO := Lib.hid (order_all w2 hT.rows (by omega) hin (by omega))
    have HIN := Lib.hid hin
    have HLN := Lib.hid (show ∀ i, i < n → (nd i).length ≤ 40 from fun i hi => Nat.le_trans (len_le_sum hi) hsum)
    have HB2 := Lib.hid (HB1.out.trans (hB2.mono HB1.out.size))
    clear hT hB2 hin hsum hnd HN HB1
    go_wp2_with (go_at_call 9; fail)
    refine HO.out.mono ?_
    rintro e w3 ⟨⟨tv, gs, rfl, hsp, hgs⟩, hb3⟩
    obtain ⟨ga, gc, rfl⟩ := hgs.shape
    have HG := Lib.hid hgs
    have HS := Lib.hid hsp
    have HX3 := Lib.hid ((HX.out.below hb3 (Nat.le_refl _)).mono hb3.size)
    have HB3 := Lib.hid (HB2.out.trans (hb3.mono HB2.out.size))
    obtain ⟨G, hGl⟩ : ∃ G, gs.length = G := ⟨_, rfl⟩
    have HGL := Lib.hid hGl
    have hGb : G ≤ n := by
      rw [← hGl]
      exact hsp.len
    rw [hGl]
    have hmk := fun w => make_ints n n (Nat.le_refl _) (by omega) w
    clear hsp hgs hb3 HX HB2 HO hGl
    go_wp2_with fail
    go_loopw [9] (fun vi W => ∃ i : Nat, i ≤ n ∧ vi = .int .i64 i ∧ Hid (∃ A, ZAt w3.heap.size n A W ∧ ∀ v, v < i → A v = -1) ∧ Hid (Below w3.heap.size w3 W)) (fun vi _ => n - (RowKit.intOf vi).toNat)
    case atStart => exact ⟨0, Nat.zero_le _, rfl, Lib.hid ⟨_, ZAt.start w3 n, fun v hv => by omega⟩, Lib.hid ((Below.refl _ w3).alloc (Nat.le_refl _) _)⟩
    case round =>
      rename World => W
      obtain ⟨i, hin, rfl, HA, HB⟩ := hrel
      by_cases hlt : i < n
      · have hltI : (i : Int) < (n : Int) := by omega
        have hi0 : (0 : Int) ≤ (i : Int) := by omega
        obtain ⟨A, hZ, hA⟩ := HA.out
        obtain ⟨c1, c2, c3⟩ := hZ.cell hlt
        have HA2 := Lib.hid (show ∃ A, ZAt w3.heap.size n A (W.setCell ⟨w3.heap.size, i, none⟩ (.int .i64 (-1))) ∧ ∀ v, v < i + 1 → A v = -1 from ⟨_, hZ.set hlt (-1), fun v hv => by
          unfold updA
          split
          · rfl
          · exact hA v (by omega)⟩)
        have HB2 := Lib.hid (HB.out.setCell (p := ⟨w3.heap.size, i, none⟩) (Nat.le_refl _) (.int .i64 (-1)))
        clear hZ hA HA HB
        go_wp2_with fail
        go_roundw
        case rel => exact ⟨i + 1, by omega, by go_num, HA2, HB2⟩
        case measure => simp [RowKit.intOf]; omega
      · obtain rfl : i = n := by omega
        have hltI : ¬ (i : Int) < (i : Int) := by omega
        have HP := Lib.hid (show ∃ A, ZAt w3.heap.size i A W ∧ PosI gs i A 0 0 from by obtain ⟨A, h1, h2⟩ := HA.out; exact ⟨A, h1, PosI.start h2⟩)
        clear HA
        go_wp2_with fail
        go_loopw [10] (fun vi W => ∃ j : Nat, j ≤ G ∧ vi = .int .i64 j ∧ Hid (∃ A, ZAt w3.heap.size i A W ∧ PosI gs i A j 0) ∧ Hid (Below w3.heap.size w3 W)) (fun vi _ => G - (RowKit.intOf vi).toNat)
        case atStart => exact ⟨0, Nat.zero_le _, rfl, HP, HB⟩
        case round =>
          clear HP HB W
          rename World => W
          obtain ⟨j, hjG, rfl, HP, HB⟩ := hrel
          by_cases hj : j < G
          · have hjI : (j : Int) < (G : Int) := by omega
            have hj0 : (0 : Int) ≤ (j : Int) := by omega
            have hjg : j < gs.length := by rw [HGL.out]; exact hj
            have hmem := HS.out.inside hjg
            have hM := HS.out.len1 hmem
            obtain ⟨gj, hgj⟩ : ∃ gj, gs.getD j [] = gj := ⟨_, rfl⟩
            have HGJ := Lib.hid hgj
            rw [hgj] at hM hmem
            have HMM := Lib.hid hmem
            have HJG := Lib.hid hjg
            obtain ⟨M, hMl⟩ : ∃ M, gj.length = M := ⟨_, rfl⟩
            have HML := Lib.hid hMl
            rw [hMl] at hM
            clear hjg hmem hgj hMl
            go_wp2_with fail
            go_loopw [11] (fun vk W => ∃ k : Nat, k ≤ M ∧ vk = .int .i64 k ∧ Hid (∃ A, ZAt w3.heap.size i A W ∧ PosI gs i A j k) ∧ Hid (Below w3.heap.size w3 W)) (fun vk _ => M - (RowKit.intOf vk).toNat)
            case atStart => exact ⟨0, Nat.zero_le _, rfl, HP, HB⟩
            case round =>
              clear HP HB W
              rename World => W
              obtain ⟨k, hkM, rfl, HP, HB⟩ := hrel
              obtain ⟨q, rfl, ra, rc, y1, yr⟩ := (HG.out.keep HB.out).rowAt HJG.out
              rw [HGJ.out, HML.out] at y1
              rw [HGJ.out, HML.out] at yr
              by_cases hk : k < M
              · have hkI : (k : Int) < (M : Int) := by omega
                have hk0 : (0 : Int) ≤ (k : Int) := by omega
                obtain ⟨rg, ro, rfl, _, yc⟩ := yr.at (by rw [HML.out]; omega)
                have hkl : k < gj.length := by rw [HML.out]; exact hk
                have yk := yc k hkl
                obtain ⟨v, hv⟩ : ∃ v, gj.getD k 0 = v := ⟨_, rfl⟩
                have hvn : v < i := HS.out.lt HMM.out (hv ▸ getD_mem hkl)
                obtain ⟨A, hZ, hP⟩ := HP.out
                have hkl2 : k < (gs.getD j []).length := by rw [HGJ.out]; exact hkl
                have hfr := hP.free HS.out HJG.out hkl2
                have had := hP.add HS.out HJG.out hkl2
                rw [HGJ.out, hv] at hfr had
                rw [hv] at yk
                obtain ⟨c1, c2, c3⟩ := hZ.cell hvn
                rw [hfr] at c1
                have HP2 := Lib.hid (show ∃ A, ZAt w3.heap.size i A (W.setCell ⟨w3.heap.size, v, none⟩ (.int .i64 (j : Int))) ∧ PosI gs i A j (k + 1) from ⟨_, hZ.set hvn _, had⟩)
                have HB2 := Lib.hid (HB.out.setCell (p := ⟨w3.heap.size, v, none⟩) (Nat.le_refl _) (.int .i64 (j : Int)))
                have hvI : (v : Int) < (i : Int) := by omega
                have hvJ : ¬ (v : Int) ≥ (i : Int) := by omega
                have hvK : ¬ (i : Int) ≤ (v : Int) := by omega
                have hv0 : (0 : Int) ≤ (v : Int) := by omega
                have hv1 : ¬ (v : Int) < 0 := by omega
                cases k with
                | zero =>
                  have yk0 : W.cell? ⟨rg, ro, none⟩ = some (.int .i64 (v : Int)) := yk
                  clear hZ hP hfr had hkl hkl2 yr yc HP HB hv
                  go_wp2_with fail
                  go_roundw
                  case rel => exact ⟨1, by omega, by go_num, HP2, HB2⟩
                  case measure => simp [RowKit.intOf]; omega
                | succ m =>
                  have ym := yc m (by omega)
                  have hris := HS.out.rise HJG.out hkl2 (show m < m + 1 by omega)
                  rw [HGJ.out, hv] at hris
                  obtain ⟨u, hu⟩ : ∃ u, gj.getD m 0 = u := ⟨_, rfl⟩
                  rw [hu] at ym hris
                  have hmI : (m : Int) < (M : Int) := by omega
                  have hm0 : (0 : Int) ≤ (m : Int) := by omega
                  have huv : ¬ (v : Int) ≤ (u : Int) := by omega
                  have hsucc : ((m + 1 : Nat) : Int) > 0 := by omega
                  clear hZ hP hfr had hkl hkl2 yr yc HP HB hv hu
                  go_wp2_with fail
                  go_roundw
                  case rel => exact ⟨m + 1 + 1, by omega, by go_num, HP2, HB2⟩
                  case measure => simp [RowKit.intOf]; omega
              · obtain rfl : k = M := by omega
                have hkI : ¬ (k : Int) < (k : Int) := by omega
                have HP2 := Lib.hid (show ∃ A, ZAt w3.heap.size i A W ∧ PosI gs i A (j + 1) 0 from by
                  obtain ⟨A, h1, h2⟩ := HP.out
                  exact ⟨A, h1, PosI.next (by rw [HGJ.out, HML.out]; exact h2)⟩)
                clear HP yr
                go_wp2_with fail
                go_roundw
                case rel => exact ⟨j + 1, by omega, by go_num, HP2, HB⟩
                case measure => simp [RowKit.intOf]; omega
          · obtain rfl : j = G := by omega
            have hjI : ¬ (j : Int) < (j : Int) := by omega
            obtain ⟨A, hZ, hP⟩ := HP.out
            have HE := Lib.hid (show PosE gs i A from PosI.end (by rw [HGL.out]; exact hP) HS.out)
            have HZ := Lib.hid hZ
            clear hZ hP HP
            go_wp2_with fail
            go_loopw [13] (fun vi W => ∃ u : Nat, u ≤ i ∧ vi = .int .i64 u ∧ Hid (ZAt w3.heap.size i A W) ∧ Hid (Below w3.heap.size w3 W)) (fun vi _ => i - (RowKit.intOf vi).toNat)
            case atStart => exact ⟨0, Nat.zero_le _, rfl, HZ, HB⟩
            case round =>
              clear HZ HB W
              rename World => W
              obtain ⟨u, hui, rfl, HZ, HB⟩ := hrel
              by_cases hu : u < i
              · have huI : (u : Int) < (i : Int) := by omega
                have hu0 : (0 : Int) ≤ (u : Int) := by omega
                obtain ⟨c1, c2, c3⟩ := HZ.out.cell hu
                obtain ⟨p, p1, p2, p3⟩ := HE.out u hu
                rw [p2] at c1
                have hp0 : ¬ (p : Int) < 0 := by omega
                have hp1 : (0 : Int) ≤ (p : Int) := by omega
                have HP2 := Lib.hid p2
                obtain ⟨nL, hnL⟩ : ∃ nL, nd u = nL := ⟨_, rfl⟩
                have HNL := Lib.hid hnL
                have hnl : nL.length ≤ 40 := hnL ▸ HLN.out u hu
                have HNI := Lib.hid (fun x (hx : x ∈ nL) => HIN.out u hu x (hnL ▸ hx))
                obtain ⟨nn, hnn⟩ : ∃ nn, nL.length = nn := ⟨_, rfl⟩
                have HNN := Lib.hid hnn
                rw [hnn] at hnl
                clear p2 p3 hnL hnn
                go_wp2_with fail
                go_loopw [14] (fun vk W => ∃ k : Nat, k ≤ nn ∧ vk = .int .i64 k ∧ Hid (ZAt w3.heap.size i A W) ∧ Hid (Below w3.heap.size w3 W)) (fun vk _ => nn - (RowKit.intOf vk).toNat)
                case atStart => exact ⟨0, Nat.zero_le _, rfl, HZ, HB⟩
                case round =>
                  clear HZ HB c1 c2 c3 W
                  rename World => W
                  obtain ⟨k, hkn, rfl, HZ, HB⟩ := hrel
                  obtain ⟨ra, rc, y1, yr⟩ := (HX3.out.below HB.out (Nat.le_refl _)).cell hu
                  rw [HNL.out] at y1 yr
                  by_cases hk : k < nn
                  · have hkI : (k : Int) < (nn : Int) := by omega
                    have hk0 : (0 : Int) ≤ (k : Int) := by omega
                    have hkL : k < nL.length := by rw [HNN.out]; exact hk
                    obtain ⟨rg, ro, rfl, yk⟩ := yr.cellAt hkL
                    obtain ⟨x, hx⟩ : ∃ x, nL.getD k 0 = x := ⟨_, rfl⟩
                    rw [hx] at yk
                    have hxm : x ∈ nL := hx ▸ getD_mem hkL
                    have hxi : x < i := HNI.out x hxm
                    have hle := HE.out.le HS.out hu hxi (.one (by rw [HNL.out]; exact hxm))
                    obtain ⟨d1, d2, d3⟩ := HZ.out.cell hxi
                    obtain ⟨c1, c2, c3⟩ := HZ.out.cell hu
                    obtain ⟨ax, hax⟩ : ∃ ax, A x = ax := ⟨_, rfl⟩
                    obtain ⟨au, hau⟩ : ∃ au, A u = au := ⟨_, rfl⟩
                    rw [hax] at d1 hle
                    rw [hau] at c1 hle
                    have hgt : ¬ ax > au := by omega
                    have hgt2 : ¬ au < ax := by omega
                    have hxI : (x : Int) < (i : Int) := by omega
                    have hx0 : (0 : Int) ≤ (x : Int) := by omega
                    rw [HNN.out] at y1
                    clear hx hxm hkL yr hax hau
                    go_wp2_with fail
                    go_quiet (fail)
                    go_wp2_with fail
                    go_roundw
                    case rel => exact ⟨k + 1, by omega, by go_num, Lib.hid HZ.out, Lib.hid (below_drewN HB.out _)⟩
                    case measure => simp [RowKit.intOf]; omega
                  · obtain rfl : k = nn := by omega
                    have hkI : ¬ (k : Int) < (k : Int) := by omega
                    rw [HNN.out] at y1
                    clear yr
                    go_wp2_with fail
                    go_roundw
                    case rel => exact ⟨u + 1, by omega, by go_num, HZ, HB⟩
                    case measure => simp [RowKit.intOf]; omega
              · obtain rfl : u = i := by omega
                have huI : ¬ (u : Int) < (u : Int) := by omega
                go_wp2_with fail
                go_loopw [15] (fun vi W => ∃ x : Nat, x ≤ u ∧ vi = .int .i64 x ∧ Hid (ZAt w3.heap.size u A W) ∧ Hid (Below w3.heap.size w3 W)) (fun vi _ => u - (RowKit.intOf vi).toNat)
                case atStart => exact ⟨0, Nat.zero_le _, rfl, HZ, HB⟩
                case round =>
                  clear HZ HB W
                  rename World => W
                  obtain ⟨x, hxu, rfl, HZ, HB⟩ := hrel
                  by_cases hx : x < u
                  · have hxI : (x : Int) < (u : Int) := by omega
                    have hx0 : (0 : Int) ≤ (x : Int) := by omega
                    go_wp2_with fail
                    go_loopw [16] (fun vk W => ∃ y : Nat, y ≤ u ∧ vk = .int .i64 y ∧ Hid (ZAt w3.heap.size u A W) ∧ Hid (Below w3.heap.size w3 W)) (fun vk _ => u - (RowKit.intOf vk).toNat)
                    case atStart => exact ⟨0, Nat.zero_le _, rfl, HZ, HB⟩
                    case round =>
                      clear HZ HB W
                      rename World => W
                      obtain ⟨y, hyu, rfl, HZ, HB⟩ := hrel
                      by_cases hy : y < u
                      · have hyI : (y : Int) < (u : Int) := by omega
                        have hy0 : (0 : Int) ≤ (y : Int) := by omega
                        obtain ⟨c1, c2, c3⟩ := HZ.out.cell hx
                        obtain ⟨d1, d2, d3⟩ := HZ.out.cell hy
                        by_cases hxy : x = y
                        · subst hxy
                          have hez : ((x : Int) == (x : Int)) = true := by simp
                          clear d1 d2 d3
                          go_wp2_with fail
                          go_region
                          all_goals
                            go_wp2_with fail
                            go_roundw
                            case rel => exact ⟨x + 1, by omega, by go_num, Lib.hid HZ.out, Lib.hid HB.out.drew⟩
                            case measure => simp [RowKit.intOf]; omega
                        · have hne : ((x : Int) == (y : Int)) = false := by simp; omega
                          have hne2 : ¬ (x : Int) = (y : Int) := by omega
                          obtain ⟨ax, hax⟩ : ∃ ax, A x = ax := ⟨_, rfl⟩
                          obtain ⟨ay, hay⟩ : ∃ ay, A y = ay := ⟨_, rfl⟩
                          rw [hax] at c1
                          rw [hay] at d1
                          by_cases hA : ax = ay
                          · obtain ⟨r1, r2⟩ := HE.out.same HS.out hx hy (by rw [hax, hay]; exact hA)
                            have hAz : (ax == ay) = true := by simp [hA]
                            have HC := Lib.hid (fun (V : World) (hV : Below w3.heap.size w3 V) (a b : Nat) (ha : a < u) (hb : b < u) (hr : Rch nd a b) => comes_any (cap := u) V ((HX3.out.below hV (Nat.le_refl _)).mono hV.size) (by omega) (fun i hi => Nat.le_trans (HLN.out i hi) (by omega)) HIN.out ha hb hr)
                            have hbA := HB.out.drew
                            have HR1 := Lib.hid r1
                            have HR2 := Lib.hid r2
                            have HZ2 := Lib.hid HZ.out
                            subst hA
                            clear r1 r2 hax hay
                            have X1 := cell_regrown c1
                            have X2 := cell_regrown d1
                            have hH1 := fun dd os => Calls.regrown_of (HC.out (grow (redrawn W dd) os) (HB.out.trans ((below_regrown W dd os).mono HB.out.size)) x y hx hy HR1.out)
                            have hH2 := fun dd os => Calls.regrown_of (HC.out (grow (redrawn W dd) os) (HB.out.trans ((below_regrown W dd os).mono HB.out.size)) y x hy hx HR2.out)
                            clear hAz c1 c2 c3 d1 d2 d3
                            go_wp2_with fail
                            refine wp_region_quiet_below (by kernel_rfl) (by kernel_rfl) ?_
                            iterate 19 (quiet_step (first | exact hH1 _ _ | (go_at_fn 11; exact hH1 _ _)))
                            clear hH1
                            repeat (quiet_step (first | exact hH2 _ _ | (go_at_fn 11; exact hH2 _ _)))
                            refine wpQuiet_nil ?_
                            intro _ hw'
                            obtain ⟨⟨dq, osq⟩, hw''⟩ := hw'
                            subst hw''
                            have HB5 := Lib.hid (HB.out.trans ((below_regrown W dq osq).mono HB.out.size))
                            have HZ5 := Lib.hid (HZ2.out.below (below_regrown W dq osq))
                            clear X1 X2 hH2
                            go_wp2_with fail
                            go_roundw
                            case rel => exact ⟨y + 1, by omega, by go_num, HZ5, HB5⟩
                            case measure => simp [RowKit.intOf]; omega
                          · have hAd : decide (ax = ay) = false := by simp [hA]
                            have HA := Lib.hid hA
                            clear hA hax hay
                            go_wp2_with fail
                            refine wp_region_quiet_lit (by kernel_rfl) (by kernel_rfl) ?_
                            iterate 15 (quiet_step (fail))
                            repeat (first | (refine wpQuiet_step (fun K hK => ?_); go_simp; rw [if_neg HA.out]; refine hK _ ?_; clear hK K) | (quiet_step (fail)))
                            refine wpQuiet_nil ?_
                            intro _ hw'
                            obtain ⟨nq, hw''⟩ := hw'
                            subst hw''
                            go_wp2_with fail
                            go_roundw
                            case rel => exact ⟨y + 1, by omega, by go_num, Lib.hid HZ.out, Lib.hid (below_drewN HB.out _)⟩
                            case measure => simp [RowKit.intOf]; omega
                      · obtain rfl : y = u := by omega
                        have hyI : ¬ (y : Int) < (y : Int) := by omega
                        go_wp2_with fail
                        go_roundw
                        case rel => exact ⟨x + 1, by omega, by go_num, HZ, HB⟩
                        case measure => simp [RowKit.intOf]; omega
                  · obtain rfl : x = u := by omega
                    have hxI : ¬ (x : Int) < (x : Int) := by omega
                    have HBE := Lib.hid (HB3.out.trans (HB.out.mono HB3.out.size))
                    go_wp2
                    go_ret
                    exact ⟨rfl, HBE.out⟩
end Go.Proofs.Ytlpifioneafciaa
