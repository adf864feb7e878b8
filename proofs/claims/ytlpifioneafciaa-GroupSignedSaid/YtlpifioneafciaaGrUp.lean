/- container/heap's up. -/
import Derived.Test.YtlpifioneafciaaGrHeapP
namespace Go.Proofs.Ytlpifioneafciaa
open Go.RowKit Go.Maps Go.Lib
attribute [local go_sem] Oper.semAt_some

theorem meth_less (a : Addr) (w : World) : (method 214 57 (.pointer (some a)) "Less").run Try.prog w = .ok (58, .pointer (some a)) w := by kernel_rfl
theorem meth_swap (a : Addr) (w : World) : (method 214 57 (.pointer (some a)) "Swap").run Try.prog w = .ok (61, .pointer (some a)) w := by kernel_rfl
theorem meth_len (a : Addr) (w : World) : (method 214 57 (.pointer (some a)) "Len").run Try.prog w = .ok (26, .pointer (some a)) w := by kernel_rfl
theorem meth_push (a : Addr) (w : World) : (method 214 57 (.pointer (some a)) "Push").run Try.prog w = .ok (60, .pointer (some a)) w := by kernel_rfl
theorem meth_pop (a : Addr) (w : World) : (method 214 57 (.pointer (some a)) "Pop").run Try.prog w = .ok (59, .pointer (some a)) w := by kernel_rfl
def ltM (ms : Nat → List Nat) (x y : Nat) : Prop := cmpN (ms x) (ms y) < 0
theorem less_yes {B B0 b c qm qu qw i j : Nat} {rv : Value} {ms us : Nat → List Nat} {wt : Nat → Nat} {rd : List Nat} (w : World) (h : OM B B0 b c qm qu qw rv ms us wt rd w) (hi : i < rd.length) (hj : j < rd.length) (hml : ∀ x, (ms x).length ≤ 1000000000) (hlt : ltM ms (rd.getD i 0) (rd.getD j 0)) :
    Calls Try.prog 58 #[.pointer (some ⟨b, 0, none⟩), .int .i64 (i : Int), .int .i64 (j : Int)] w fun e w' => e = .returned (.bool true) ∧ ∃ q, w' = w.drewN q := by
  refine (less_any w h hi hj hml).mono ?_
  rintro e w' ⟨rfl, q, rfl⟩
  exact ⟨by rw [decide_eq_true (show cmpN _ _ < 0 from hlt)], q, rfl⟩
theorem less_no {B B0 b c qm qu qw i j : Nat} {rv : Value} {ms us : Nat → List Nat} {wt : Nat → Nat} {rd : List Nat} (w : World) (h : OM B B0 b c qm qu qw rv ms us wt rd w) (hi : i < rd.length) (hj : j < rd.length) (hml : ∀ x, (ms x).length ≤ 1000000000) (hlt : ¬ ltM ms (rd.getD i 0) (rd.getD j 0)) :
    Calls Try.prog 58 #[.pointer (some ⟨b, 0, none⟩), .int .i64 (i : Int), .int .i64 (j : Int)] w fun e w' => e = .returned (.bool false) ∧ ∃ q, w' = w.drewN q := by
  refine (less_any w h hi hj hml).mono ?_
  rintro e w' ⟨rfl, q, rfl⟩
  exact ⟨by rw [decide_eq_false (show ¬ cmpN _ _ < 0 from hlt)], q, rfl⟩
set_option maxRecDepth 100000 in
set_option maxHeartbeats 4000000 in
theorem up_any {B B0 b c qm qu qw j0 : Nat} {rv : Value} {ms us : Nat → List Nat} {wt : Nat → Nat} {rd : List Nat} (w : World) (h : OM B B0 b c qm qu qw rv ms us wt rd w) (hj : j0 < rd.length) (hrl : rd.length < 1000000000) (hml : ∀ x, (ms x).length ≤ 1000000000) (hU : UpH (ltM ms) rd rd.length j0) :
    Calls Try.prog 37 #[.iface 57 (.pointer (some ⟨b, 0, none⟩)), .int .i64 (j0 : Int)] w fun e w' => e = .returned (.tuple #[]) ∧ ∃ rd', OM B B0 b c qm qu qw rv ms us wt rd' w' ∧ FrO B b rv w rv w' ∧ rd'.Perm rd ∧ HeapN (ltM ms) rd' rd'.length := by
  have H0 := Lib.hid h
  have HU := Lib.hid hU
  have HML := Lib.hid hml
  obtain ⟨n, hn⟩ : ∃ n, rd.length = n := ⟨_, rfl⟩
  have HN := Lib.hid hn
  rw [hn] at hj hrl HU
  have m1 := fun w => meth_less ⟨b, 0, none⟩ w
  have m2 := fun w => meth_swap ⟨b, 0, none⟩ w
  clear h hU hml hn
  go_enter Try.func37, Try.ntmps37
  go_wp2_with fail
  go_loopw [1] (fun vj wr => ∃ (j : Nat) (L : List Nat), j < n ∧ vj = .int .i64 j ∧ Hid (L.length = n ∧ L.Perm rd ∧ UpH (ltM ms) L n j) ∧ Hid (OM B B0 b c qm qu qw rv ms us wt L wr) ∧ Hid (FrO B b rv w rv wr)) (fun vj _ => (RowKit.intOf vj).toNat)
  case atStart => exact ⟨j0, rd, hj, rfl, Lib.hid ⟨HN.out, List.Perm.refl _, HU.out⟩, H0, Lib.hid (FrO.refl _ _ _ _)⟩
  case round =>
    obtain ⟨j, L, hjn, rfl, hL, hM, hF⟩ := hrel
    clear H0 HU
    obtain ⟨i, hi⟩ : ∃ i, (j - 1) / 2 = i := ⟨_, rfl⟩
    have hq : ((j : Int) - 1).tdiv 2 = (i : Int) := by rw [← hi]; rcases Nat.eq_zero_or_pos j with rfl | hp
                                                       · rfl
                                                       · rw [show (j : Int) - 1 = ((j - 1 : Nat) : Int) by omega]; rfl
    by_cases hij : i = j
    · have hijI : (i : Int) = (j : Int) := by omega
      have HE := Lib.hid (show HeapN (ltM ms) L L.length by rw [hL.out.1]; exact hL.out.2.2.done (.inl (by omega)))
      go_wp2_with fail
      go_end0
      exact ⟨rfl, L, hM.out, hF.out, hL.out.2.1, HE.out⟩
    · have hijI : ¬ ((i : Int) = (j : Int)) := by omega
      have hijB : ((i : Int) == (j : Int)) = false := by simpa using hijI
      have hin : i < n := by omega
      by_cases hlt : ltM ms (L.getD j 0) (L.getD i 0)
      · have HLs := Lib.hid (less_yes (i := j) (j := i) wr hM.out (by rw [hL.out.1]; exact hjn) (by rw [hL.out.1]; exact hin) HML.out hlt)
        have HUp := Lib.hid (UpH.step (ordN ms) hL.out.2.2 (Nat.le_of_eq hL.out.1.symm) hjn (by omega) (by rw [hi]; exact hlt))
        rw [hi] at HUp
        have HSw := Lib.hid (fun q => swap_any (i := i) (j := j) (wr.drewN q) (hM.out.drew' q) (by rw [hL.out.1]; exact hin) (by rw [hL.out.1]; exact hjn) (by rw [hL.out.1]; exact hrl))
        clear hlt
        go_wp2_with (go_at_call 58; fail)
        refine HLs.out.mono ?_
        rintro e w2 ⟨rfl, q, rfl⟩
        have HS := Lib.hid (HSw.out q)
        have HF2 := Lib.hid (hF.out.drewN q)
        clear HSw HLs hM hF
        generalize wr.drewN q = W2 at *
        go_wp2_with (go_at_call 61; fail)
        refine HS.out.mono ?_
        rintro e w3 ⟨rfl, hM3, hF3⟩
        have HM3 := Lib.hid hM3
        have HF3 := Lib.hid (HF2.out.trans hF3)
        clear hM3 hF3 HS HF2
        go_wp2_with fail
        go_roundw
        case rel => exact ⟨i, _, hin, rfl, Lib.hid ⟨(swapN_len _ _ _).trans hL.out.1, (swapN_perm L i j (by rw [hL.out.1]; exact hin) (by rw [hL.out.1]; exact hjn)).trans hL.out.2.1, HUp.out⟩, HM3, HF3⟩
        case measure => simp [RowKit.intOf]; omega
      · have HLs := Lib.hid (less_no (i := j) (j := i) wr hM.out (by rw [hL.out.1]; exact hjn) (by rw [hL.out.1]; exact hin) HML.out hlt)
        have HE := Lib.hid (show HeapN (ltM ms) L L.length by rw [hL.out.1]; exact hL.out.2.2.done (.inr (by rw [hi]; exact hlt)))
        clear hlt
        go_wp2_with (go_at_call 58; fail)
        refine HLs.out.mono ?_
        rintro e w2 ⟨rfl, q, rfl⟩
        go_wp2_with fail
        go_end0
        exact ⟨rfl, L, hM.out.drew' q, hF.out.drewN q, hL.out.2.1, HE.out⟩
end Go.Proofs.Ytlpifioneafciaa
