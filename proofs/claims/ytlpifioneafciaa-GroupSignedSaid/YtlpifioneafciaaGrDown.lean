/- container/heap's down. -/
import Derived.Test.YtlpifioneafciaaGrUp
namespace Go.Proofs.Ytlpifioneafciaa
open Go.RowKit Go.Maps Go.Lib
attribute [local go_sem] Oper.semAt_some

set_option maxRecDepth 100000 in
set_option maxHeartbeats 8000000 in
theorem down_any {B B0 b c qm qu qw i0 n m : Nat} {rv : Value} {ms us : Nat → List Nat} {wt : Nat → Nat} {rd : List Nat} (w : World) (h : OM B B0 b c qm qu qw rv ms us wt rd w) (hi0 : i0 ≤ n) (hm : rd.length = m) (hnm : n ≤ m) (hrl : m < 1000000000) (hml : ∀ x, (ms x).length ≤ 1000000000) (hU : DownH (ltM ms) rd n i0) :
    Calls Try.prog 38 #[.iface 57 (.pointer (some ⟨b, 0, none⟩)), .int .i64 (i0 : Int), .int .i64 (n : Int)] w fun e w' => (∃ r, e = .returned (.bool r)) ∧ ∃ rd', OM B B0 b c qm qu qw rv ms us wt rd' w' ∧ FrO B b rv w rv w' ∧ rd'.Perm rd ∧ HeapN (ltM ms) rd' n ∧ ∀ k, n ≤ k → rd'.getD k 0 = rd.getD k 0 := by
  have H0 := Lib.hid h
  have HU := Lib.hid hU
  have HML := Lib.hid hml
  have HN := Lib.hid hm
  have m1 := fun w => meth_less ⟨b, 0, none⟩ w
  have m2 := fun w => meth_swap ⟨b, 0, none⟩ w
  clear h hU hml hm
  go_enter Try.func38, Try.ntmps38
  go_wp2_with fail
  go_loopw [7] (fun vi wr => ∃ (i : Nat) (L : List Nat), i ≤ n ∧ vi = .int .i64 i ∧ Hid (L.length = m ∧ L.Perm rd ∧ DownH (ltM ms) L n i ∧ ∀ k, n ≤ k → L.getD k 0 = rd.getD k 0) ∧ Hid (OM B B0 b c qm qu qw rv ms us wt L wr) ∧ Hid (FrO B b rv w rv wr)) (fun vi _ => n - (RowKit.intOf vi).toNat)
  case atStart => exact ⟨i0, rd, hi0, rfl, Lib.hid ⟨HN.out, List.Perm.refl _, HU.out, fun _ _ => rfl⟩, H0, Lib.hid (FrO.refl _ _ _ _)⟩
  case round =>
    obtain ⟨i, L, hin, rfl, hL, hM, hF⟩ := hrel
    clear H0 HU
    have hc1 : ((2 * i + 1 : Nat) : Int) = 2 * (i : Int) + 1 := by omega
    have hc2 : ((2 * i + 2 : Nat) : Int) = 2 * (i : Int) + 1 + 1 := by omega
    by_cases h1 : n ≤ 2 * i + 1
    · have h1I : (2 * (i : Int) + 1 ≥ (n : Int)) := by omega
      have HE := Lib.hid (show HeapN (ltM ms) L n from hL.out.2.2.1.done fun k hk hk2 => by omega)
      go_wp2
      go_ret
      exact ⟨⟨_, rfl⟩, L, hM.out, hF.out, hL.out.2.1, HE.out, hL.out.2.2.2⟩
    · have h1I : ¬ (2 * (i : Int) + 1 ≥ (n : Int)) := by omega
      have h1J : ¬ (2 * (i : Int) + 1 < 0) := by omega
      by_cases h2 : 2 * i + 2 < n
      · have h2I : (2 * (i : Int) + 1 + 1 < (n : Int)) := by omega
        by_cases hl : ltM ms (L.getD (2 * i + 2) 0) (L.getD (2 * i + 1) 0)
        · have HLs := Lib.hid (less_yes (i := 2 * i + 2) (j := 2 * i + 1) wr hM.out (by rw [hL.out.1]; omega) (by rw [hL.out.1]; omega) HML.out hl)
          simp only [hc1, hc2] at HLs
          go_wp2_with (go_at_call 58; fail)
          refine HLs.out.mono ?_
          rintro e w2 ⟨rfl, q, rfl⟩
          have HM2 := Lib.hid (hM.out.drew' q)
          have HF2 := Lib.hid (hF.out.drewN q)
          clear HLs hM hF
          generalize wr.drewN q = W2 at *
          have hjn : 2 * i + 2 < n := by omega
          have hjI : ((2 * i + 2 : Nat) : Int) < (n : Int) := by omega
          have hjp : (2 * i + 2 - 1) / 2 = i := by omega
          have HB := Lib.hid (show ∀ k, k < n → 0 < k → (k - 1) / 2 = i → ¬ ltM ms (L.getD k 0) (L.getD (2 * i + 2) 0) from fun k hk k0 kp => by
            by_cases e : k = 2 * i + 2
            · subst e; exact fun hc => (ordN ms).asym hc hc
            · obtain rfl : k = 2 * i + 1 := by omega
              exact (ordN ms).asym hl)
          by_cases hlt : ltM ms (L.getD (2 * i + 2) 0) (L.getD i 0)
          · have HL2 := Lib.hid (less_yes (i := 2 * i + 2) (j := i) W2 HM2.out (by rw [hL.out.1]; omega) (by rw [hL.out.1]; omega) HML.out hlt)
            have HD := Lib.hid (DownH.step (ordN ms) (i := i) (j := 2 * i + 2) hL.out.2.2.1 (by rw [hL.out.1]; exact hnm) hjn hjp (by omega) HB.out hlt)
            have HSw := Lib.hid (fun q => swap_any (i := i) (j := 2 * i + 2) (W2.drewN q) (HM2.out.drew' q) (by rw [hL.out.1]; omega) (by rw [hL.out.1]; omega) (by rw [hL.out.1]; exact hrl))
            clear hlt HB
            simp only [hc2] at HL2 HSw
            go_wp2_with (go_at_call 58; fail)
            refine HL2.out.mono ?_
            rintro e w3 ⟨rfl, q, rfl⟩
            have HS := Lib.hid (HSw.out q)
            have HF3 := Lib.hid (HF2.out.drewN q)
            clear HSw HL2 HM2 HF2
            generalize W2.drewN q = W3 at *
            go_wp2_with (go_at_call 61; fail)
            refine HS.out.mono ?_
            rintro e w4 ⟨rfl, hM4, hF4⟩
            have HM4 := Lib.hid hM4
            have HF4 := Lib.hid (HF3.out.trans hF4)
            clear hM4 hF4 HS HF3
            go_wp2_with fail
            go_roundw
            case rel => exact ⟨2 * i + 2, _, by omega, by go_num, Lib.hid ⟨(swapN_len _ _ _).trans hL.out.1, (swapN_perm L i (2 * i + 2) (by rw [hL.out.1]; omega) (by rw [hL.out.1]; omega)).trans hL.out.2.1, HD.out, fun k hk => by rw [swapN_getD _ _ _ _ (by rw [hL.out.1]; omega) (by rw [hL.out.1]; omega), if_neg (by omega), if_neg (by omega)]; exact hL.out.2.2.2 k hk⟩, HM4, HF4⟩
            case measure => simp [RowKit.intOf]; omega
          · have HL2 := Lib.hid (less_no (i := 2 * i + 2) (j := i) W2 HM2.out (by rw [hL.out.1]; omega) (by rw [hL.out.1]; omega) HML.out hlt)
            have HE := Lib.hid (show HeapN (ltM ms) L n from hL.out.2.2.1.done fun k hk hk2 hc => (ordN ms).ntrans (HB.out k hk (by omega) (by omega)) hlt hc)
            clear hlt HB
            simp only [hc2] at HL2
            go_wp2_with (go_at_call 58; fail)
            refine HL2.out.mono ?_
            rintro e w3 ⟨rfl, q, rfl⟩
            go_wp2
            go_ret
            exact ⟨⟨_, rfl⟩, L, HM2.out.drew' q, HF2.out.drewN q, hL.out.2.1, HE.out, hL.out.2.2.2⟩
        · have HLs := Lib.hid (less_no (i := 2 * i + 2) (j := 2 * i + 1) wr hM.out (by rw [hL.out.1]; omega) (by rw [hL.out.1]; omega) HML.out hl)
          simp only [hc1, hc2] at HLs
          go_wp2_with (go_at_call 58; fail)
          refine HLs.out.mono ?_
          rintro e w2 ⟨rfl, q, rfl⟩
          have HM2 := Lib.hid (hM.out.drew' q)
          have HF2 := Lib.hid (hF.out.drewN q)
          clear HLs hM hF
          generalize wr.drewN q = W2 at *
          have hjn : 2 * i + 1 < n := by omega
          have hjI : ((2 * i + 1 : Nat) : Int) < (n : Int) := by omega
          have hjp : (2 * i + 1 - 1) / 2 = i := by omega
          have HB := Lib.hid (show ∀ k, k < n → 0 < k → (k - 1) / 2 = i → ¬ ltM ms (L.getD k 0) (L.getD (2 * i + 1) 0) from fun k hk k0 kp => by
            by_cases e : k = 2 * i + 2
            · subst e; exact hl
            · obtain rfl : k = 2 * i + 1 := by omega
              exact fun hc => (ordN ms).asym hc hc)
          by_cases hlt : ltM ms (L.getD (2 * i + 1) 0) (L.getD i 0)
          · have HL2 := Lib.hid (less_yes (i := 2 * i + 1) (j := i) W2 HM2.out (by rw [hL.out.1]; omega) (by rw [hL.out.1]; omega) HML.out hlt)
            have HD := Lib.hid (DownH.step (ordN ms) (i := i) (j := 2 * i + 1) hL.out.2.2.1 (by rw [hL.out.1]; exact hnm) hjn hjp (by omega) HB.out hlt)
            have HSw := Lib.hid (fun q => swap_any (i := i) (j := 2 * i + 1) (W2.drewN q) (HM2.out.drew' q) (by rw [hL.out.1]; omega) (by rw [hL.out.1]; omega) (by rw [hL.out.1]; exact hrl))
            clear hlt HB
            simp only [hc1] at HL2 HSw
            go_wp2_with (go_at_call 58; fail)
            refine HL2.out.mono ?_
            rintro e w3 ⟨rfl, q, rfl⟩
            have HS := Lib.hid (HSw.out q)
            have HF3 := Lib.hid (HF2.out.drewN q)
            clear HSw HL2 HM2 HF2
            generalize W2.drewN q = W3 at *
            go_wp2_with (go_at_call 61; fail)
            refine HS.out.mono ?_
            rintro e w4 ⟨rfl, hM4, hF4⟩
            have HM4 := Lib.hid hM4
            have HF4 := Lib.hid (HF3.out.trans hF4)
            clear hM4 hF4 HS HF3
            go_wp2_with fail
            go_roundw
            case rel => exact ⟨2 * i + 1, _, by omega, by go_num, Lib.hid ⟨(swapN_len _ _ _).trans hL.out.1, (swapN_perm L i (2 * i + 1) (by rw [hL.out.1]; omega) (by rw [hL.out.1]; omega)).trans hL.out.2.1, HD.out, fun k hk => by rw [swapN_getD _ _ _ _ (by rw [hL.out.1]; omega) (by rw [hL.out.1]; omega), if_neg (by omega), if_neg (by omega)]; exact hL.out.2.2.2 k hk⟩, HM4, HF4⟩
            case measure => simp [RowKit.intOf]; omega
          · have HL2 := Lib.hid (less_no (i := 2 * i + 1) (j := i) W2 HM2.out (by rw [hL.out.1]; omega) (by rw [hL.out.1]; omega) HML.out hlt)
            have HE := Lib.hid (show HeapN (ltM ms) L n from hL.out.2.2.1.done fun k hk hk2 hc => (ordN ms).ntrans (HB.out k hk (by omega) (by omega)) hlt hc)
            clear hlt HB
            simp only [hc1] at HL2
            go_wp2_with (go_at_call 58; fail)
            refine HL2.out.mono ?_
            rintro e w3 ⟨rfl, q, rfl⟩
            go_wp2
            go_ret
            exact ⟨⟨_, rfl⟩, L, HM2.out.drew' q, HF2.out.drewN q, hL.out.2.1, HE.out, hL.out.2.2.2⟩
      · have h2I : ¬ (2 * (i : Int) + 1 + 1 < (n : Int)) := by omega
        have HM2 := hM
        have HF2 := hF
        obtain ⟨W2, hW2⟩ : ∃ W2, wr = W2 := ⟨_, rfl⟩
        rw [hW2] at HM2 HF2 ⊢
        clear hM hF hW2
        have hjn : 2 * i + 1 < n := by omega
        have hjI : ((2 * i + 1 : Nat) : Int) < (n : Int) := by omega
        have hjp : (2 * i + 1 - 1) / 2 = i := by omega
        have HB := Lib.hid (show ∀ k, k < n → 0 < k → (k - 1) / 2 = i → ¬ ltM ms (L.getD k 0) (L.getD (2 * i + 1) 0) from fun k hk k0 kp => by
          obtain rfl : k = 2 * i + 1 := by omega
          exact fun hc => (ordN ms).asym hc hc)
        by_cases hlt : ltM ms (L.getD (2 * i + 1) 0) (L.getD i 0)
        · have HL2 := Lib.hid (less_yes (i := 2 * i + 1) (j := i) W2 HM2.out (by rw [hL.out.1]; omega) (by rw [hL.out.1]; omega) HML.out hlt)
          have HD := Lib.hid (DownH.step (ordN ms) (i := i) (j := 2 * i + 1) hL.out.2.2.1 (by rw [hL.out.1]; exact hnm) hjn hjp (by omega) HB.out hlt)
          have HSw := Lib.hid (fun q => swap_any (i := i) (j := 2 * i + 1) (W2.drewN q) (HM2.out.drew' q) (by rw [hL.out.1]; omega) (by rw [hL.out.1]; omega) (by rw [hL.out.1]; exact hrl))
          clear hlt HB
          simp only [hc1] at HL2 HSw
          go_wp2_with (go_at_call 58; fail)
          refine HL2.out.mono ?_
          rintro e w3 ⟨rfl, q, rfl⟩
          have HS := Lib.hid (HSw.out q)
          have HF3 := Lib.hid (HF2.out.drewN q)
          clear HSw HL2 HM2 HF2
          generalize W2.drewN q = W3 at *
          go_wp2_with (go_at_call 61; fail)
          refine HS.out.mono ?_
          rintro e w4 ⟨rfl, hM4, hF4⟩
          have HM4 := Lib.hid hM4
          have HF4 := Lib.hid (HF3.out.trans hF4)
          clear hM4 hF4 HS HF3
          go_wp2_with fail
          go_roundw
          case rel => exact ⟨2 * i + 1, _, by omega, by go_num, Lib.hid ⟨(swapN_len _ _ _).trans hL.out.1, (swapN_perm L i (2 * i + 1) (by rw [hL.out.1]; omega) (by rw [hL.out.1]; omega)).trans hL.out.2.1, HD.out, fun k hk => by rw [swapN_getD _ _ _ _ (by rw [hL.out.1]; omega) (by rw [hL.out.1]; omega), if_neg (by omega), if_neg (by omega)]; exact hL.out.2.2.2 k hk⟩, HM4, HF4⟩
          case measure => simp [RowKit.intOf]; omega
        · have HL2 := Lib.hid (less_no (i := 2 * i + 1) (j := i) W2 HM2.out (by rw [hL.out.1]; omega) (by rw [hL.out.1]; omega) HML.out hlt)
          have HE := Lib.hid (show HeapN (ltM ms) L n from hL.out.2.2.1.done fun k hk hk2 hc => (ordN ms).ntrans (HB.out k hk (by omega) (by omega)) hlt hc)
          clear hlt HB
          simp only [hc1] at HL2
          go_wp2_with (go_at_call 58; fail)
          refine HL2.out.mono ?_
          rintro e w3 ⟨rfl, q, rfl⟩
          go_wp2
          go_ret
          exact ⟨⟨_, rfl⟩, L, HM2.out.drew' q, HF2.out.drewN q, hL.out.2.1, HE.out, hL.out.2.2.2⟩
end Go.Proofs.Ytlpifioneafciaa
