/- container/heap's Push and Pop. -/
import Derived.Test.YtlpifioneafciaaGrDown
namespace Go.Proofs.Ytlpifioneafciaa
open Go.RowKit Go.Maps Go.Lib
attribute [local go_sem] Oper.semAt_some

theorem getD_app {l m : List Nat} {k : Nat} (h : k < l.length) : (l ++ m).getD k 0 = l.getD k 0 := by simp [List.getD, List.getElem?_append_left h]
set_option maxRecDepth 100000 in
set_option maxHeartbeats 4000000 in
theorem hpush_any {B B0 b c qm qu qw r n : Nat} {rv : Value} {ms us : Nat → List Nat} {wt : Nat → Nat} {rd : List Nat} (w : World) (h : OM B B0 b c qm qu qw rv ms us wt rd w) (hB0 : B0 ≤ w.heap.size) (hr : r < c) (hn : rd.length = n) (hrl : n + 1 < 1000000000) (hml : ∀ x, (ms x).length ≤ 1000000000) (hH : HeapN (ltM ms) rd n) :
    Calls Try.prog 25 #[.iface 57 (.pointer (some ⟨b, 0, none⟩)), .iface 3 (.int .i64 (r : Int))] w fun e w' => e = .returned (.tuple #[]) ∧ ∃ rv' rd', OM B B0 b c qm qu qw rv' ms us wt rd' w' ∧ FrO B b rv w rv' w' ∧ rd'.Perm (rd ++ [r]) ∧ HeapN (ltM ms) rd' rd'.length := by
  have HP := Lib.hid (opush_any w h hB0 hr (by omega))
  have HU := Lib.hid (show UpH (ltM ms) (rd ++ [r]) (rd ++ [r]).length n from by
    refine ⟨fun k k0 kn ke => ?_, fun k k0 kn ke _ => ?_⟩
    · have hkn : k < rd.length := by simp at kn; omega
      have := hH k k0 (by omega)
      rw [getD_app hkn, getD_app (by omega)]
      exact this
    · simp at kn; omega)
  have HML := Lib.hid hml
  have HN := Lib.hid hn
  have m1 := fun w => meth_push ⟨b, 0, none⟩ w
  have m2 := fun w => meth_len ⟨b, 0, none⟩ w
  clear h hml hH hn
  go_enter Try.func25, Try.ntmps25
  go_wp2_with (go_at_call 60; fail)
  refine HP.out.mono ?_
  rintro e w2 ⟨rfl, rv2, hM2, hF2⟩
  have HM2 := Lib.hid hM2
  have HF2 := Lib.hid hF2
  have HLn := Lib.hid (olen_any w2 hM2)
  have hl2 : (rd ++ [r]).length = n + 1 := by simp [HN.out]
  rw [hl2] at HLn
  have hcI : (((n + 1 : Nat) : Int)) - 1 = (n : Int) := by omega
  have HUp := Lib.hid (up_any (j0 := n) w2 hM2 (by omega) (by omega) HML.out HU.out)
  clear HP hM2 hF2
  go_wp2_with (go_at_call 26; fail)
  refine HLn.out.mono ?_
  rintro e w3 ⟨rfl, rfl⟩
  go_wp2_with (go_at_call 37; fail)
  refine HUp.out.mono ?_
  rintro e w4 ⟨rfl, rd', hM4, hF4, hp, hh⟩
  have HE := Lib.hid (And.intro hM4 (And.intro (HF2.out.trans hF4) (And.intro hp hh)))
  clear hM4 hF4 hp hh
  go_wp2_with fail
  go_end0
  exact ⟨rfl, _, _, HE.out.1, HE.out.2.1, HE.out.2.2.1, HE.out.2.2.2⟩
set_option maxRecDepth 100000 in
set_option maxHeartbeats 4000000 in
theorem hpop_any {B B0 b c qm qu qw n : Nat} {rv : Value} {ms us : Nat → List Nat} {wt : Nat → Nat} {rd : List Nat} (w : World) (h : OM B B0 b c qm qu qw rv ms us wt rd w) (hn : rd.length = n + 1) (hrl : n + 1 < 1000000000) (hml : ∀ x, (ms x).length ≤ 1000000000) (hH : HeapN (ltM ms) rd (n + 1)) :
    Calls Try.prog 27 #[.iface 57 (.pointer (some ⟨b, 0, none⟩))] w fun e w' => ∃ x, e = .returned (.iface 3 (.int .i64 (x : Nat))) ∧ ∃ rv' rd', OM B B0 b c qm qu qw rv' ms us wt rd' w' ∧ FrO B b rv w rv' w' ∧ rd.Perm (x :: rd') ∧ HeapN (ltM ms) rd' rd'.length ∧ ∀ y ∈ rd, ¬ ltM ms y x := by
  have HLn := Lib.hid (olen_any w h)
  rw [hn] at HLn
  have HS := Lib.hid (swap_any (i := 0) (j := n) w h (by omega) (by omega) (by omega))
  have hp := swapN_perm rd 0 n (by omega) (by omega)
  have hg := fun k => swapN_getD rd 0 n k (by omega) (by omega)
  have hls : (swapN rd 0 n).length = n + 1 := (swapN_len _ _ _).trans hn
  have HD := Lib.hid (show DownH (ltM ms) (swapN rd 0 n) n 0 from ⟨fun k k0 kn kp => by
    rw [hg k, hg ((k - 1) / 2), if_neg (by omega), if_neg (by omega), if_neg (by omega), if_neg kp]
    exact hH k k0 (by omega), fun _ _ _ _ h0 => absurd h0 (by omega)⟩)
  have hmin : ∀ y ∈ rd, ¬ ltM ms y (rd.getD 0 0) := fun y hy => by
    obtain ⟨k, hk, rfl⟩ := List.mem_iff_getElem.1 hy
    have := HeapN.least (ordN ms) hH (fun a ha => (ordN ms).asym ha ha) k (by omega)
    rw [show rd[k] = rd.getD k 0 by simp [List.getD, hk]]; exact this
  have hlast : (swapN rd 0 n).getD n 0 = rd.getD 0 0 := by rw [hg n, if_pos rfl]
  have HQ := Lib.hid (And.intro hp (And.intro hls (And.intro hmin hlast)))
  have HML := Lib.hid hml
  have hcI : (((n + 1 : Nat) : Int)) - 1 = (n : Int) := by omega
  have m1 := fun w => meth_pop ⟨b, 0, none⟩ w
  have m2 := fun w => meth_len ⟨b, 0, none⟩ w
  have m3 := fun w => meth_swap ⟨b, 0, none⟩ w
  clear h hml hH hn hp hg hls hmin hlast
  go_enter Try.func27, Try.ntmps27
  go_wp2_with (go_at_call 26; fail)
  refine HLn.out.mono ?_
  rintro e w3 ⟨rfl, rfl⟩
  go_wp2_with (go_at_call 61; fail)
  refine HS.out.mono ?_
  rintro e w4 ⟨rfl, hM4, hF4⟩
  have HDn := Lib.hid (down_any (i0 := 0) (n := n) (m := n + 1) w4 hM4 (Nat.zero_le _) HQ.out.2.1 (by omega) hrl HML.out HD.out)
  have HF4 := Lib.hid hF4
  clear hM4 hF4 HS HLn
  go_wp2_with (go_at_call 38; fail)
  refine HDn.out.mono ?_
  rintro e w5 ⟨⟨r, rfl⟩, rd5, hM5, hF5, hp5, hh5, hk5⟩
  have hl5 : rd5.length = n + 1 := hp5.length_eq.trans HQ.out.2.1
  obtain ⟨l, x, hlx⟩ : ∃ l x, rd5 = l ++ [x] := by
    have : rd5 ≠ [] := fun e => by rw [e] at hl5; simp at hl5
    exact ⟨rd5.dropLast, rd5.getLast this, (List.dropLast_concat_getLast this).symm⟩
  subst hlx
  have hll : l.length = n := by simpa using hl5
  have hx : x = rd.getD 0 0 := by
    have := hk5 n (Nat.le_refl _)
    rw [HQ.out.2.2.2] at this
    rw [← this]; simp [List.getD, ← hll]
  have HPp := Lib.hid (opop_any w5 hM5 (by omega))
  have HE := Lib.hid (show rd.Perm (x :: l) ∧ HeapN (ltM ms) l l.length ∧ ∀ y ∈ rd, ¬ ltM ms y x from ⟨((hp5.trans HQ.out.1).symm).trans List.perm_append_comm, fun k k0 kn => by
    have := hh5 k k0 (by omega)
    rw [getD_app (by omega), getD_app (by omega)] at this
    exact this, by rw [hx]; exact HQ.out.2.2.1⟩)
  have HF5 := Lib.hid (HF4.out.trans hF5)
  clear hM5 hF5 hp5 hh5 hk5 hl5 hx HDn HF4
  go_wp2_with (go_at_call 59; fail)
  refine HPp.out.mono ?_
  rintro e w6 ⟨rfl, rv6, hM6, hF6⟩
  have HM6 := Lib.hid hM6
  have HF6 := Lib.hid (HF5.out.trans hF6)
  clear hM6 hF6
  go_wp2
  go_ret
  exact ⟨x, rfl, _, _, HM6.out, HF6.out, HE.out.1, HE.out.2.1, HE.out.2.2⟩
end Go.Proofs.Ytlpifioneafciaa
