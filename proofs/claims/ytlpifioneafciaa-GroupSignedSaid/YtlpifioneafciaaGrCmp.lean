/- slices.Compare of rows of numbers. -/
import Derived.Test.YtlpifioneafciaaGrOrd
namespace Go.Proofs.Ytlpifioneafciaa
open Go.RowKit Go.Maps Go.Lib
attribute [local go_sem] Oper.semAt_some

theorem drop_getD {l : List Nat} {i : Nat} (h : i < l.length) : l.drop i = l.getD i 0 :: l.drop (i + 1) := by
  rw [List.drop_eq_getElem_cons h]
  simp [List.getD, h]
set_option maxRecDepth 100000 in
set_option maxHeartbeats 4000000 in
theorem compare_any {ok ok' : Nat → Prop} (l m : List Nat) (hl : l.length ≤ 1000000000) (hm : m.length ≤ 1000000000) (a a' : Option Addr) (c c' : Nat) (w : World) (h : RowQ ok (.slice a l.length c) l w) (h' : RowQ ok' (.slice a' m.length c') m w) :
    Calls Try.prog 62 #[.slice a l.length c, .slice a' m.length c'] w fun e w' => e = .returned (.int .i64 (cmpN l m)) ∧ w' = w := by
  have HR := Lib.hid h
  have HR' := Lib.hid h'
  clear h h'
  obtain ⟨n, hn⟩ : ∃ n, l.length = n := ⟨_, rfl⟩
  obtain ⟨k, hk⟩ : ∃ k, m.length = k := ⟨_, rfl⟩
  have HN := Lib.hid hn
  have HK := Lib.hid hk
  rw [hn] at hl HR ⊢
  rw [hk] at hm HR' ⊢
  clear hn hk
  go_enter Try.func62, Try.ntmps62
  go_wp2
  go_loop [11] (fun vi => ∃ i : Nat, i ≤ n ∧ i ≤ k ∧ vi = .int .i64 i ∧ Hid (cmpN l m = cmpN (l.drop i) (m.drop i))) (fun vi => n - (RowKit.intOf vi).toNat)
  case atStart => exact ⟨0, Nat.zero_le _, Nat.zero_le _, rfl, Lib.hid rfl⟩
  case round =>
    obtain ⟨i, hi, hik, rfl, hS⟩ := hrel
    by_cases hlt : i < n
    · have hltI : ((i : Int) < (n : Int)) := by omega
      obtain ⟨g, o, rfl, hg, hh⟩ := HR.out.at (by rw [HN.out]; omega)
      have x0 := hh i (by rw [HN.out]; omega)
      have HD := Lib.hid (drop_getD (l := l) (i := i) (by rw [HN.out]; omega))
      obtain ⟨x, hx⟩ : ∃ x, l.getD i 0 = x := ⟨_, rfl⟩
      rw [hx] at x0 HD
      clear hh hx HR
      by_cases hlk : i < k
      · have hlkI : ¬ ((i : Int) ≥ (k : Int)) := by omega
        have hlkJ : ((i : Int) < (k : Int)) := by omega
        obtain ⟨g', o', rfl, hg', hh'⟩ := HR'.out.at (by rw [HK.out]; omega)
        have x1 := hh' i (by rw [HK.out]; omega)
        have HD' := Lib.hid (drop_getD (l := m) (i := i) (by rw [HK.out]; omega))
        obtain ⟨y, hy⟩ : ∃ y, m.getD i 0 = y := ⟨_, rfl⟩
        rw [hy] at x1 HD'
        clear hh' hy HR'
        have HC := Lib.hid (cmp_any x y)
        by_cases h1 : x < y
        · simp only [if_pos h1] at HC
          have HE := Lib.hid (show cmpN l m = -1 by rw [hS.out, HD.out, HD'.out]; simp [cmpN, h1])
          clear h1 hS HD HD'
          go_wp2_with (go_at_call 63; refine (HC.out _).mono ?_; rintro e w2 ⟨rfl, rfl⟩)
          go_ret
          exact ⟨by rw [HE.out]; rfl, rfl⟩
        · by_cases h2 : y < x
          · simp only [if_neg h1, if_pos h2] at HC
            have HE := Lib.hid (show cmpN l m = 1 by rw [hS.out, HD.out, HD'.out]; simp [cmpN, h1, h2])
            clear h1 h2 hS HD HD'
            go_wp2_with (go_at_call 63; refine (HC.out _).mono ?_; rintro e w2 ⟨rfl, rfl⟩)
            go_ret
            exact ⟨by rw [HE.out]; rfl, rfl⟩
          · simp only [if_neg h1, if_neg h2] at HC
            have HE := Lib.hid (show cmpN l m = cmpN (l.drop (i + 1)) (m.drop (i + 1)) by rw [hS.out, HD.out, HD'.out]; simp [cmpN, h1, h2])
            clear h1 h2 hS HD HD'
            go_wp2_with (go_at_call 63; refine (HC.out _).mono ?_; rintro e w2 ⟨rfl, rfl⟩)
            go_round
            case rel => exact ⟨i + 1, by omega, by omega, by go_num, HE⟩
            case measure => simp [RowKit.intOf]; omega
      · obtain rfl : i = k := by omega
        have HE := Lib.hid (show cmpN l m = 1 by rw [hS.out, HD.out, List.drop_of_length_le (l := m) (Nat.le_of_eq HK.out)]; rfl)
        clear hS HD HR'
        have hge : ((i : Int) ≥ (i : Int)) := by omega
        go_wp2
        go_ret
        exact ⟨by rw [HE.out]; rfl, rfl⟩
    · obtain rfl : i = n := by omega
      by_cases hlk : i < k
      · have hlkJ : ((i : Int) < (k : Int)) := by omega
        have HE := Lib.hid (show cmpN l m = -1 by rw [hS.out, List.drop_of_length_le (l := l) (Nat.le_of_eq HN.out), drop_getD (l := m) (i := i) (by rw [HK.out]; omega)]; rfl)
        clear hS HR HR'
        go_wp2
        go_ret
        exact ⟨by rw [HE.out]; rfl, rfl⟩
      · obtain rfl : i = k := by omega
        have HE := Lib.hid (show cmpN l m = 0 by rw [hS.out, List.drop_of_length_le (l := l) (Nat.le_of_eq HN.out), List.drop_of_length_le (l := m) (Nat.le_of_eq HK.out)]; rfl)
        clear hS HR HR'
        go_wp2
        go_ret
        exact ⟨by rw [HE.out]; rfl, rfl⟩
end Go.Proofs.Ytlpifioneafciaa
