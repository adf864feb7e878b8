/- GroupMore: the law's walk. -/
import Derived.Test.YtlpifioneafciaaGrMoreP
namespace Go.Proofs.Ytlpifioneafciaa
open Go.RowKit Go.Maps Go.Lib Go.Sort
attribute [local go_sem] Oper.semAt_some

theorem more_in {n a b : Nat} {nd : Nat → List Nat} (h : ∀ i, i < n → ∀ x ∈ nd i, x < n) (ha : a < n) (hb : b < n) : ∀ i, i < n → ∀ x ∈ updA nd a (nd a ++ [b]) i, x < n := fun i hi x hx => by
  by_cases e : i = a
  · subst e
    rw [updA_same] at hx
    rcases List.mem_append.1 hx with h1 | h1
    · exact h i hi x h1
    · obtain rfl : x = b := by simpa using h1
      exact hb
  · rw [updA_ne nd _ e] at hx; exact h i hi x hx
set_option maxRecDepth 100000 in
set_option maxHeartbeats 8000000 in
theorem gmore_law (a0 : Option Addr) (zs : List Int) (c0 : Nat) (z0 z1 z2 : Int) (w : World) (h : IntsL w.heap.size a0 zs w) :
    Calls Try.prog 3 #[.slice a0 zs.length c0, .int .i64 z0, .int .i64 z1, .int .i64 z2] w fun e w' => e = .returned (.bool true) ∧ Below w.heap.size w w' := by
  have HF := Lib.hid (first_any w)
  have H0 := Lib.hid h
  obtain ⟨L, hL⟩ : ∃ L, zs.length = L := ⟨_, rfl⟩
  have HL := Lib.hid hL
  rw [hL]
  clear h hL
  go_enter Try.func3, Try.ntmps3
  by_cases hl40 : L > 30
  · have hlI : (L : Int) > 30 := by omega
    have hlJ : (30 : Int) < (L : Int) := by omega
    go_wp2_with (go_at_call 7; fail)
    refine HF.out.mono ?_
    rintro e w1 ⟨rfl, hb1⟩
    have HB1 := Lib.hid hb1
    clear hb1 HF
    go_wp2
    go_ret
    exact ⟨rfl, HB1.out⟩
  · have hlI : ¬ (L : Int) > 30 := by omega
    have hlJ : ¬ (30 : Int) < (L : Int) := by omega
    obtain ⟨k1, k2, k3⟩ := kOf_eq (n := 12) (by omega) z0
    have q1 := Int.tmod_lt_of_pos z0 (show (0 : Int) < ((12 : Nat) : Int) by omega)
    have q2 := Int.lt_tmod_of_pos z0 (show (0 : Int) < ((12 : Nat) : Int) by omega)
    rw [show (((12 : Nat) : Int)) = 12 from rfl] at k1 k2 q1 q2
    obtain ⟨r, hr⟩ : ∃ r, z0.tmod 12 = r := ⟨_, rfl⟩
    rw [hr] at k1 k2 q1 q2
    obtain ⟨m, hm⟩ : ∃ m, kOf 12 z0 = m := ⟨_, rfl⟩
    rw [hm] at k1 k2 k3
    clear hm
    have hmz : (((m : Int) + 1) == 0) = false := by simp; omega
    have hmp : (0 : Int) < ((m + 1 : Nat) : Int) := by omega
    have hmI : ((m + 1 : Nat) : Int) = (m : Int) + 1 := by omega
    obtain ⟨s1, s2, s3⟩ := kOf_eq (n := m + 1) (by omega) z1
    have s4 := Int.tmod_lt_of_pos z1 hmp
    have s5 := Int.lt_tmod_of_pos z1 hmp
    obtain ⟨t1, t2, t3⟩ := kOf_eq (n := m + 1) (by omega) z2
    have t4 := Int.tmod_lt_of_pos z2 hmp
    have t5 := Int.lt_tmod_of_pos z2 hmp
    rw [hmI] at s1 s2 s4 s5 t1 t2 t4 t5
    obtain ⟨rs, hrs⟩ : ∃ rs, z1.tmod ((m : Int) + 1) = rs := ⟨_, rfl⟩
    obtain ⟨rt, hrt⟩ : ∃ rt, z2.tmod ((m : Int) + 1) = rt := ⟨_, rfl⟩
    rw [hrs] at s1 s2 s4 s5
    rw [hrt] at t1 t2 t4 t5
    obtain ⟨a, ha⟩ : ∃ a, kOf (m + 1) z1 = a := ⟨_, rfl⟩
    obtain ⟨b, hb⟩ : ∃ b, kOf (m + 1) z2 = b := ⟨_, rfl⟩
    rw [ha] at s1 s2 s3
    rw [hb] at t1 t2 t3
    clear ha hb hmp
    go_wp2_with (go_at_call 7; fail)
    refine HF.out.mono ?_
    rintro e w1 ⟨rfl, hb1⟩
    have HB1 := Lib.hid hb1
    have hN := needs_any (a := a0) (zs := zs) (cap := c0) (n := m + 1) w1 ((H0.out.keep hb1).mono hb1.size) (by rw [HL.out]; omega) (by omega)
    rw [HL.out, hmI] at hN
    have HN := Lib.hid hN
    clear hb1 HF hN
    go_wp2_with (go_at_call 8; fail)
    refine HN.out.mono ?_
    rintro e w2 ⟨rfl, hT⟩
    obtain ⟨n, hn⟩ : ∃ n, m + 1 = n := ⟨_, rfl⟩
    rw [hn] at hT s3 t3 hmI ⊢
    rw [← hmI]
    have hn12 : n ≤ 12 := by omega
    have hnp : 0 < n := by omega
    have hnz : ((n : Int) == 0) = false := by simp; omega
    clear s1 s2 s4 s5 t1 t2 t4 t5 hrs hrt hmz hmI k1 k2 q1 q2 hr hn
    obtain ⟨rv, hT, hB2⟩ := hT
    obtain ⟨nd, hnd⟩ : ∃ nd, ndOf n zs = nd := ⟨_, rfl⟩
    have hin : ∀ i, i < n → ∀ x ∈ nd i, x < n := fun i hi x hx => ndOf_in hnp zs i x (by rw [hnd]; exact hx)
    have hsum : sumN nd n = L := by have := ndOf_sum hnp zs; rw [hnd, HL.out] at this; exact this
    have HND := Lib.hid hnd
    rw [hnd] at hT
    have HO := Lib.hid (order_all w2 hT.rows (by omega) hin (by omega))
    have HIN := Lib.hid hin
    have HSM := Lib.hid hsum
    have HB2 := Lib.hid (HB1.out.trans (hB2.mono HB1.out.size))
    clear hT hB2 hin hsum hnd HN HB1
    go_wp2_with (go_at_call 9; fail)
    refine HO.out.mono ?_
    rintro e w3 ⟨⟨tv, gs, rfl, hsp, hgs⟩, hb3⟩
    obtain ⟨ga, gc, rfl⟩ := hgs.shape
    have HG := Lib.hid hgs
    have HS := Lib.hid hsp
    have hb3' := HB2.out.trans (hb3.mono HB2.out.size)
    have HB3 := Lib.hid hb3'
    obtain ⟨G, hGl⟩ : ∃ G, gs.length = G := ⟨_, rfl⟩
    have HGL := Lib.hid hGl
    have hGb : G ≤ n := by rw [← hGl]; exact hsp.len
    rw [hGl]
    have hN := needs_any (a := a0) (zs := zs) (cap := c0) (n := n) w3 ((H0.out.keep hb3').mono hb3'.size) (by rw [HL.out]; omega) (by omega)
    rw [HL.out, HND.out] at hN
    have HN := Lib.hid hN
    clear hsp hgs hb3 hb3' HB2 HO hGl hN
    go_wp2_with (go_at_call 8; fail)
    refine HN.out.mono ?_
    rintro e w4 ⟨rfl, hT⟩
    obtain ⟨rv, hT, hB4⟩ := hT
    obtain ⟨i0, hi, hz0, hz1, hz2⟩ := info_parts Try.infoInt0
    obtain ⟨c1, c2, c3⟩ := hT.cell s3
    have hrow := hT.row a s3
    obtain ⟨ra, rc, hsh⟩ := hrow.shape
    obtain ⟨lr, hlr⟩ : ∃ lr, nd a = lr := ⟨_, rfl⟩
    obtain ⟨j, hj⟩ : ∃ j, lr.length = j := ⟨_, rfl⟩
    have hjb : j ≤ 1000 := by
      have h1 := len_le_sum (nd := nd) s3
      rw [HSM.out, hlr, hj] at h1
      omega
    rw [hlr] at hsh hrow
    rw [hj] at hsh
    rw [hsh] at c1 hrow
    have HLR := Lib.hid hlr
    have HJ := Lib.hid hj
    have HRw := Lib.hid (fun (o : Obj) => show (w4.alloc o).ownsRow w3.heap.size 3 1 (.slice ra j rc) j (intsV lr) from by have := hrow.alloc o; unfold OwnI at this; rwa [hj] at this)
    have HAp := Lib.hid (fun (o : Obj) (w2 : World) (v' : Value) (hown : w2.ownsRow w3.heap.size 3 1 v' (j + 1) (intsV lr ++ [.int .i64 (b : Int)])) (hg : (w4.alloc o).grownBy w2 (Value.slice ra j rc).ownBlock) (hat : v'.ownBlock = (Value.slice ra j rc).ownBlock ∨ v'.ownBlock = some (w4.heap.size + 1)) => show ∃ g cap, v' = .slice (some ⟨g, 0, none⟩) (j + 1) cap ∧ Hid (TK w3.heap.size w3.heap.size n (updA nd a (lr ++ [b])) w3 (w2.setCell ⟨w3.heap.size, a, none⟩ (.slice (some ⟨g, 0, none⟩) (j + 1) cap))) ∧ w2.cell? ⟨w3.heap.size, a, none⟩ = some (.slice ra j rc) ∧ w2.frozen? ⟨w3.heap.size, a, none⟩ = false from by
      obtain ⟨g5, c5, e5, h5, h6⟩ := hT.app2 (x := b) (o := o) (m := j) hB4 s3 hlr hj hsh hown hg hat
      exact ⟨g5, c5, e5, Lib.hid h5, h6⟩)
    have HBs := hB4.size
    have c4 := fun o : Obj => ((below_allocG w4 o).cell (p := ⟨w3.heap.size, a, none⟩) c3).trans c1
    have haI : (a : Int) < (n : Int) := by omega
    have ha0 : (0 : Int) ≤ (a : Int) := by omega
    clear hT hB4 hrow hsh hlr hj HN
    go_wp2_with (at_builtin; refine wpList_append_own_at _ rfl _ _ 22 rfl w3.heap.size 3 i0 (.int .i64 0) 1 8 Try.underlying22 hi hz0 hz1 hz2 rfl (by decide) _ _ _ rfl (HRw.out _) ⟨w4.heap.size, 0, none⟩ 1 1 [.int .i64 (b : Int)] rfl rfl (frz_oneI _ _ _) (by simp [Value.oneCell']) ?c3 ?c4 ?c5 ?_)
    case c3 => unfold maxLen; omega
    case c4 => omega
    case c5 => simp; omega
    intro v4 W4 hown4 hgr4 _ hat4
    obtain ⟨g5, cap5, rfl, HK5, k2, k3⟩ := HAp.out _ _ _ hown4 hgr4 hat4
    clear hown4 hgr4 hat4 HAp HRw c4 c1 c2 c3
    have hK5 := HK5.out
    obtain ⟨W5, hW5⟩ : ∃ W5, W4.setCell ⟨w3.heap.size, a, none⟩ (.slice (some ⟨g5, 0, none⟩) (j + 1) cap5) = W5 := ⟨_, rfl⟩
    rw [hW5] at hK5
    obtain ⟨rv5, hT5, hB5⟩ := hK5
    obtain ⟨nd1, hnd1⟩ : ∃ nd1, updA nd a (lr ++ [b]) = nd1 := ⟨_, rfl⟩
    have hnd1' : updA nd a (nd a ++ [b]) = nd1 := by rw [HLR.out]; exact hnd1
    have hin1 : ∀ i, i < n → ∀ x ∈ nd1 i, x < n := by rw [← hnd1']; exact more_in HIN.out s3 t3
    have hsum1 : sumN nd1 n = L + 1 := by rw [← hnd1', sumN_app nd s3, HSM.out]
    rw [hnd1] at hT5
    have HT5 := Lib.hid hT5
    have HB5 := Lib.hid hB5
    have HN1 := Lib.hid hnd1'
    have HIN1 := Lib.hid hin1
    have HSM1 := Lib.hid hsum1
    have HLR1 := Lib.hid (show nd1 a = lr ++ [b] by rw [← hnd1, updA_same])
    have HO := Lib.hid (order_all W5 hT5.rows (by omega) hin1 (by omega))
    have HW5 := Lib.hid hW5
    rw [← hW5] at HO
    clear hT5 hB5 hnd1 hnd1' hin1 hsum1 HK5 hW5
    go_wp2_with (go_at_call 9; fail)
    refine HO.out.mono ?_
    rw [HW5.out]
    rintro e w6 ⟨⟨tv, hs, rfl, hsp, hgs⟩, hb6⟩
    obtain ⟨ha6, hc6, rfl⟩ := hgs.shape
    have HH := Lib.hid hgs
    have HS1 := Lib.hid hsp
    have HB6 := Lib.hid hb6
    obtain ⟨M, hMl⟩ : ∃ M, hs.length = M := ⟨_, rfl⟩
    have HML := Lib.hid hMl
    have hMb : M ≤ n := by rw [← hMl]; exact hsp.len
    rw [hMl]
    have hMG : M ≤ G := by rw [← hMl, ← HGL.out]; exact HS.out.count hsp fun i j _ hr => HN1.out ▸ hr.more
    have hmk := fun w => make_ints n n (Nat.le_refl _) (by omega) w
    have hB36 := HB5.out.trans (hb6.mono HB5.out.size)
    have HG6 := Lib.hid (HG.out.keep hB36)
    have HB36 := Lib.hid hB36
    clear hsp hgs hb6 HO hMl HW5 k2 k3 hB36
    go_wp2_with fail
    go_loopw [15] (fun vi W => ∃ i : Nat, i ≤ M ∧ vi = .int .i64 i ∧ Hid (∃ A, ZAt w6.heap.size n A W ∧ PosW hs n A i 0) ∧ Hid (Below w6.heap.size w6 W)) (fun vi _ => M - (RowKit.intOf vi).toNat)
    case atStart => exact ⟨0, Nat.zero_le _, rfl, Lib.hid ⟨_, ZAt.start w6 n, PosW.start⟩, Lib.hid ((Below.refl _ w6).alloc (Nat.le_refl _) _)⟩
    case round =>
      rename World => W
      obtain ⟨i, hiM, rfl, HP, HB⟩ := hrel
      by_cases hiL : i < M
      · have hiI : (i : Int) < (M : Int) := by omega
        have hi0 : (0 : Int) ≤ (i : Int) := by omega
        have hjg : i < hs.length := by rw [HML.out]; exact hiL
        have hmem := HS1.out.inside hjg
        have hK := HS1.out.len1 hmem
        obtain ⟨gj, hgj⟩ : ∃ gj, hs.getD i [] = gj := ⟨_, rfl⟩
        have HGJ := Lib.hid hgj
        rw [hgj] at hK hmem
        have HMM := Lib.hid hmem
        have HJG := Lib.hid hjg
        obtain ⟨K, hKl⟩ : ∃ K, gj.length = K := ⟨_, rfl⟩
        have HKL := Lib.hid hKl
        rw [hKl] at hK
        clear hjg hmem hgj hKl
        go_wp2_with fail
        go_loopw [16] (fun vk W => ∃ k : Nat, k ≤ K ∧ vk = .int .i64 k ∧ Hid (∃ A, ZAt w6.heap.size n A W ∧ PosW hs n A i k) ∧ Hid (Below w6.heap.size w6 W)) (fun vk _ => K - (RowKit.intOf vk).toNat)
        case atStart => exact ⟨0, Nat.zero_le _, rfl, HP, HB⟩
        case round =>
          clear HP HB W
          rename World => W
          obtain ⟨k, hkK, rfl, HP, HB⟩ := hrel
          obtain ⟨q, rfl, rb, rd, y1, yr⟩ := (HH.out.keep HB.out).rowAt HJG.out
          rw [HGJ.out, HKL.out] at y1
          rw [HGJ.out, HKL.out] at yr
          by_cases hk : k < K
          · have hkI : (k : Int) < (K : Int) := by omega
            have hk0 : (0 : Int) ≤ (k : Int) := by omega
            obtain ⟨rg, ro, rfl, _, yc⟩ := yr.at (by rw [HKL.out]; omega)
            have hkl : k < gj.length := by rw [HKL.out]; exact hk
            have yk := yc k hkl
            obtain ⟨v, hv⟩ : ∃ v, gj.getD k 0 = v := ⟨_, rfl⟩
            have hvn : v < n := HS1.out.lt HMM.out (hv ▸ getD_mem hkl)
            obtain ⟨A, hZ, hP⟩ := HP.out
            have hkl2 : k < (hs.getD i []).length := by rw [HGJ.out]; exact hkl
            have had := hP.add HS1.out HJG.out hkl2
            rw [HGJ.out, hv] at had
            rw [hv] at yk
            obtain ⟨c1, c2, c3⟩ := hZ.cell hvn
            have HP2 := Lib.hid (show ∃ A, ZAt w6.heap.size n A (W.setCell ⟨w6.heap.size, v, none⟩ (.int .i64 (i : Int))) ∧ PosW hs n A i (k + 1) from ⟨_, hZ.set hvn _, had⟩)
            have HB2 := Lib.hid (HB.out.setCell (p := ⟨w6.heap.size, v, none⟩) (Nat.le_refl _) (.int .i64 (i : Int)))
            have hvI : (v : Int) < (n : Int) := by omega
            have hvJ : ¬ (v : Int) ≥ (n : Int) := by omega
            have hvK : ¬ (n : Int) ≤ (v : Int) := by omega
            have hv0 : (0 : Int) ≤ (v : Int) := by omega
            have hv1 : ¬ (v : Int) < 0 := by omega
            clear hZ hP had hkl hkl2 yr yc HP HB hv
            go_wp2_with fail
            go_roundw
            case rel => exact ⟨k + 1, by omega, by go_num, HP2, HB2⟩
            case measure => simp [RowKit.intOf]; omega
          · obtain rfl : k = K := by omega
            have hkI : ¬ (k : Int) < (k : Int) := by omega
            have HP2 := Lib.hid (show ∃ A, ZAt w6.heap.size n A W ∧ PosW hs n A (i + 1) 0 from by
              obtain ⟨A, h1, h2⟩ := HP.out
              exact ⟨A, h1, PosW.next (by rw [HGJ.out, HKL.out]; exact h2)⟩)
            clear HP yr
            go_wp2_with fail
            go_roundw
            case rel => exact ⟨i + 1, by omega, by go_num, HP2, HB⟩
            case measure => simp [RowKit.intOf]; omega
      · obtain rfl : i = M := by omega
        have hiI : ¬ (i : Int) < (i : Int) := by omega
        obtain ⟨A, hZ, hP⟩ := HP.out
        have HE := Lib.hid (show PosE hs n A from PosW.end (by rw [HML.out]; exact hP) HS1.out)
        have HZ := Lib.hid hZ
        clear hZ hP HP
        go_wp2_with fail
        go_loopw [17] (fun vi W => ∃ x : Nat, x ≤ G ∧ vi = .int .i64 x ∧ Hid (ZAt w6.heap.size n A W) ∧ Hid (Below w6.heap.size w6 W)) (fun vi _ => G - (RowKit.intOf vi).toNat)
        case atStart => exact ⟨0, Nat.zero_le _, rfl, HZ, HB⟩
        case round =>
          clear HZ HB W
          rename World => W
          obtain ⟨x, hxG, rfl, HZ, HB⟩ := hrel
          by_cases hx : x < G
          · have hxI : (x : Int) < (G : Int) := by omega
            have hx0 : (0 : Int) ≤ (x : Int) := by omega
            have hjg : x < gs.length := by rw [HGL.out]; exact hx
            have hmem := HS.out.inside hjg
            have hK := HS.out.len1 hmem
            have hne : 1 ≤ (gs.getD x []).length := by
              obtain ⟨u, _, hu, _⟩ := HS.out.cls _ hmem
              exact List.length_pos_of_mem hu
            obtain ⟨gj, hgj⟩ : ∃ gj, gs.getD x [] = gj := ⟨_, rfl⟩
            have HGJ := Lib.hid hgj
            rw [hgj] at hK hmem hne
            have HMM := Lib.hid hmem
            have HJG := Lib.hid hjg
            obtain ⟨K, hKl⟩ : ∃ K, gj.length = K := ⟨_, rfl⟩
            have HKL := Lib.hid hKl
            rw [hKl] at hK hne
            clear hjg hmem hgj hKl
            go_wp2_with fail
            go_loopw [18] (fun vk W => ∃ k : Nat, (1 ≤ k ∧ k ≤ K) ∧ vk = .int .i64 k ∧ Hid (ZAt w6.heap.size n A W) ∧ Hid (Below w6.heap.size w6 W)) (fun vk _ => K - (RowKit.intOf vk).toNat)
            case atStart => exact ⟨1, ⟨Nat.le_refl _, hne⟩, rfl, HZ, HB⟩
            case round =>
              clear HZ HB W
              rename World => W
              obtain ⟨k, ⟨hk1, hkK⟩, rfl, HZ, HB⟩ := hrel
              obtain ⟨q, rfl, rb, rd, y1, yr⟩ := (HG6.out.keep HB.out).rowAt HJG.out
              rw [HGJ.out, HKL.out] at y1
              rw [HGJ.out, HKL.out] at yr
              by_cases hk : k < K
              · have hkI : (k : Int) < (K : Int) := by omega
                have hk0 : (0 : Int) ≤ (k : Int) := by omega
                have hK0 : (0 : Int) < (K : Int) := by omega
                obtain ⟨rg, ro, rfl, _, yc⟩ := yr.at (by rw [HKL.out]; omega)
                have hkl : k < gj.length := by rw [HKL.out]; exact hk
                have hkl0 : 0 < gj.length := by rw [HKL.out]; omega
                have yk := yc k hkl
                have y0 := yc 0 hkl0
                rw [Nat.add_zero] at y0
                obtain ⟨u, hu⟩ : ∃ u, gj.getD k 0 = u := ⟨_, rfl⟩
                obtain ⟨v, hv⟩ : ∃ v, gj.getD 0 0 = v := ⟨_, rfl⟩
                have hug : u ∈ gj := hu ▸ getD_mem hkl
                have hvg : v ∈ gj := hv ▸ getD_mem hkl0
                have hun := HS.out.lt HMM.out hug
                have hvn := HS.out.lt HMM.out hvg
                obtain ⟨_, r1, r2⟩ := (HS.out.mem HMM.out hug).1 hvg
                have hAe := HE.out.eq HS1.out hun hvn (HN1.out ▸ r1.more) (HN1.out ▸ r2.more)
                rw [hu] at yk
                rw [hv] at y0
                obtain ⟨c1, c2, c3⟩ := HZ.out.cell hun
                obtain ⟨d1, d2, d3⟩ := HZ.out.cell hvn
                obtain ⟨au, hau⟩ : ∃ au, A u = au := ⟨_, rfl⟩
                rw [hau] at c1 hAe
                rw [← hAe] at d1
                have huI : (u : Int) < (n : Int) := by omega
                have hu0 : (0 : Int) ≤ (u : Int) := by omega
                have hvI : (v : Int) < (n : Int) := by omega
                have hv0 : (0 : Int) ≤ (v : Int) := by omega
                clear hAe hau hu hv hug hvg r1 r2 hkl hkl0 yr yc c2 c3 d2 d3
                go_wp2_with fail
                go_quiet (fail)
                go_wp2_with fail
                go_roundw
                case rel => exact ⟨k + 1, ⟨by omega, by omega⟩, by go_num, Lib.hid HZ.out, Lib.hid (below_drewN HB.out _)⟩
                case measure => simp [RowKit.intOf]; omega
              · obtain rfl : k = K := by omega
                have hkI : ¬ (k : Int) < (k : Int) := by omega
                clear yr
                go_wp2_with fail
                go_roundw
                case rel => exact ⟨x + 1, by omega, by go_num, HZ, HB⟩
                case measure => simp [RowKit.intOf]; omega
          · obtain rfl : x = G := by omega
            have hxI : ¬ (x : Int) < (x : Int) := by omega
            have hB5W := HB6.out.trans (HB.out.mono HB6.out.size)
            have hB3W := HB36.out.trans (HB.out.mono HB36.out.size)
            have hTW := HT5.out.below hB5W
            obtain ⟨c1, c2, c3⟩ := hTW.cell s3
            have hrow := hTW.row a s3
            obtain ⟨rb, rd, hsh⟩ := hrow.shape
            obtain ⟨l1, hl1⟩ : ∃ l1, nd1 a = l1 := ⟨_, rfl⟩
            obtain ⟨j1, hj1⟩ : ∃ j1, l1.length = j1 := ⟨_, rfl⟩
            have hjb1 : j1 ≤ 1001 := by
              have h1 := len_le_sum (nd := nd1) s3
              rw [HSM1.out, hl1, hj1] at h1
              omega
            have hlt5 : ∀ k, (rv5 a).ownBlock = some k → k < W5.heap.size := fun k e => ((HT5.out.row a s3).lt k e).2
            rw [hl1] at hsh hrow
            rw [hj1] at hsh
            rw [hsh] at c1 hrow hlt5
            have hq5 : w3.heap.size < W5.heap.size := (HT5.out.cell s3).2.2
            have HRw := Lib.hid (fun (o : Obj) => show (W.alloc o).ownsRow w3.heap.size 3 1 (.slice rb j1 rd) j1 (intsV l1) from by have := hrow.alloc o; unfold OwnI at this; rwa [hj1] at this)
            have HHW := Lib.hid (HH.out.keep HB.out)
            have HAp := Lib.hid (fun (o : Obj) (w2 : World) (v' : Value) (hown : w2.ownsRow w3.heap.size 3 1 v' (j1 + 1) (intsV l1 ++ [.int .i64 (b : Int)])) (hg : (W.alloc o).grownBy w2 (Value.slice rb j1 rd).ownBlock) (hat : v'.ownBlock = (Value.slice rb j1 rd).ownBlock ∨ v'.ownBlock = some (W.heap.size + 1)) => show ∃ g cap, v' = .slice (some ⟨g, 0, none⟩) (j1 + 1) cap ∧ Hid (TK w3.heap.size w3.heap.size n (updA nd1 a (nd1 a ++ [b])) w3 (w2.setCell ⟨w3.heap.size, a, none⟩ (.slice (some ⟨g, 0, none⟩) (j1 + 1) cap)) ∧ GsR W5.heap.size (.slice ha6 hs.length hc6) hs (w2.setCell ⟨w3.heap.size, a, none⟩ (.slice (some ⟨g, 0, none⟩) (j1 + 1) cap))) ∧ w2.cell? ⟨w3.heap.size, a, none⟩ = some (.slice rb j1 rd) ∧ w2.frozen? ⟨w3.heap.size, a, none⟩ = false from by
              obtain ⟨g5, c5, e5, h5, h6, h7, h8, h9⟩ := tb_app3 (x := b) (o := o) (m := j1) hTW hB3W s3 hl1 hj1 hsh hown hg hat
              refine ⟨g5, c5, e5, Lib.hid ⟨by rw [hl1]; exact h5, HHW.out.keepB h8 fun k hk1 hk2 => h9 k hk2 (by omega) fun e => ?_⟩, h6, h7⟩
              have := hlt5 k e
              omega)
            have HBs := hB3W.size
            have c4 := fun o : Obj => ((below_allocG W o).cell (p := ⟨w3.heap.size, a, none⟩) c3).trans c1
            clear hTW hrow hsh hl1 hj1 hB5W hB3W hlt5 HZ
            go_wp2_with (at_builtin; refine wpList_append_own_at _ rfl _ _ 22 rfl w3.heap.size 3 i0 (.int .i64 0) 1 8 Try.underlying22 hi hz0 hz1 hz2 rfl (by decide) _ _ _ rfl (HRw.out _) ⟨W.heap.size, 0, none⟩ 1 1 [.int .i64 (b : Int)] rfl rfl (frz_oneI _ _ _) (by simp [Value.oneCell']) ?c3 ?c4 ?c5 ?_)
            case c3 => unfold maxLen; omega
            case c4 => omega
            case c5 => first | omega | (simp; omega)
            intro v8 W8' hown8 hgr8 _ hat8
            obtain ⟨g8, cap8, rfl, HK8, k2, k3⟩ := HAp.out _ _ _ hown8 hgr8 hat8
            clear hown8 hgr8 hat8 HAp HRw c4 c1 c2 c3 HHW
            have hK8 := HK8.out
            obtain ⟨W8, hW8⟩ : ∃ W8, W8'.setCell ⟨w3.heap.size, a, none⟩ (.slice (some ⟨g8, 0, none⟩) (j1 + 1) cap8) = W8 := ⟨_, rfl⟩
            rw [hW8] at hK8
            obtain ⟨⟨rv8, hT8, hB8⟩, hG8⟩ := hK8
            have hbm : b ∈ nd1 a := by rw [HLR1.out]; simp
            have hin2 := more_in HIN1.out s3 t3
            have hsum2 : sumN (updA nd1 a (nd1 a ++ [b])) n = L + 2 := by rw [sumN_app nd1 s3, HSM1.out]
            have HO := Lib.hid (order_all W8 hT8.rows (by omega) hin2 (by omega))
            have HB8 := Lib.hid hB8
            have HG8 := Lib.hid hG8
            have HBM := Lib.hid hbm
            have HW8 := Lib.hid hW8
            rw [← hW8] at HO
            clear hT8 hB8 hG8 hbm hin2 hsum2 HK8 hW8
            go_wp2_with (go_at_call 9; fail)
            refine HO.out.mono ?_
            rw [HW8.out]
            rintro e w9 ⟨⟨tv, hs2, rfl, hsp, hgs⟩, hb9⟩
            have hsp1 := hsp.congrR fun i j _ => ⟨fun r => Rch.less HBM.out r, fun r => Rch.more r⟩
            obtain rfl : hs2 = hs := GrSpec.unique (fun i j hi hr => hr.inside HIN1.out hi) hs2 hs [] hsp1 HS1.out
            obtain ⟨ha9, hc9, rfl⟩ := hgs.shape
            have hg9 := HG8.out.keep hb9
            rw [HML.out] at hgs hg9 ⊢
            have HR := Lib.hid (sameRows_any w9 hgs hg9 HML.out (by omega) (fun i hi => Nat.le_trans (HS1.out.len1 (HS1.out.inside hi)) (by omega)))
            have HB9 := Lib.hid (HB3.out.trans ((HB8.out.trans (hb9.mono HB8.out.size)).mono HB3.out.size))
            have hMI : (i : Int) ≤ (x : Int) := by omega
            clear hsp hsp1 hgs hg9 hb9 HO HW8 k2 k3
            go_wp2_with (go_at_call 10; fail)
            refine HR.out.mono ?_
            rintro e w10 ⟨rfl, hb10⟩
            have HB10 := Lib.hid (HB9.out.trans (hb10.mono HB9.out.size))
            clear hb10 HR HB9
            go_wp2
            go_ret
            exact ⟨rfl, HB10.out⟩
end Go.Proofs.Ytlpifioneafciaa
