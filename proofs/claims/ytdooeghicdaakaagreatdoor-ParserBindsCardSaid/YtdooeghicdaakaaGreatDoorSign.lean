import Derived.Test.YtdooeghicdaakaaGreatDoorRead
namespace Go.Proofs.YtdooeghicdaakaaGreatDoor
open Go.RowKit

theorem inL_take (s : ByteArray) (j : Nat) (l : List (List UInt8)) : inL (s.extract 0 j) l = decide (s.data.toList.take j ∈ l) := by
  rw [Bool.eq_iff_iff, inL_iff, Lib.extract_data]
  simp

set_option maxHeartbeats 1000000 in
theorem sign_read (s : ByteArray) (w : World) (hs : s.size ≤ 1000000) :
    Calls Tryz.prog 63 #[.string s] w (ReadPost s w (signFrom s.data.toList (min 2 s.size))) := by
  obtain ⟨r, hr⟩ : ∃ r, signFrom s.data.toList (min 2 s.size) = r := ⟨_, rfl⟩
  rw [hr]
  have Hr := Lib.hid hr; clear hr
  go_enter Tryz.func63, Tryz.ntmps63
  go_wp2
  go_loop [4] (fun v => ∃ k : Nat, k ≤ s.size ∧ k ≤ 2 ∧ v = .int .i64 k ∧ Hid (signFrom s.data.toList k = r)) (fun v => (intOf v).toNat)
  case atStart => exact ⟨min 2 s.size, by omega, by omega, by congr 1; omega, Hr⟩
  case round =>
    obtain ⟨k, hk, hk2, rfl, he⟩ := hrel
    by_cases h0 : 0 < k
    · obtain ⟨j, hj⟩ : ∃ j, k = j + 1 := ⟨k - 1, by omega⟩
      have T : Hid ((signAt s.data.toList k).or (signFrom s.data.toList j) = r) := Lib.hid (by rw [← he.out, hj]; rfl)
      have Hj := Lib.hid hj; clear hj
      cases ho : inL (s.extract 0 k) opsL with
      | true =>
        have ha : signAt s.data.toList k = some (5, k, 0) := by
          unfold signAt
          rw [inL_take, decide_eq_true_eq] at ho
          rw [if_pos ho]
        have R : Hid (r = some (5, k, 0)) := Lib.hid (by rw [← T.out, ha]; rfl)
        have Ho := Lib.hid ho; clear ho ha
        rw [R.out]
        go_wp2_with (go_at_call 82; refine (operator_any _ _).mono ?_; rw [Ho.out]; rintro e w' ⟨rfl, rfl⟩)
        exact bodyPost_ret (v := .tuple #[tokV 5 0 (s.extract 0 k) 0, .bool true]) (by simp [results, Tryz.results63, go_sem, tokV]) rfl ⟨rfl, (Below.refl _ _).alloc (Nat.le_refl _) _⟩
      | false =>
        cases hm : inL (s.extract 0 k) marksL with
        | true =>
          have ha : signAt s.data.toList k = some (6, k, 0) := by
            unfold signAt
            rw [inL_take, decide_eq_true_eq] at hm
            rw [inL_take, decide_eq_false_iff_not] at ho
            rw [if_neg ho, if_pos hm]
          have R : Hid (r = some (6, k, 0)) := Lib.hid (by rw [← T.out, ha]; rfl)
          have Ho := Lib.hid ho; clear ho ha
          have Hm := Lib.hid hm; clear hm
          rw [R.out]
          go_wp2_with (first | (go_at_call 82; refine (operator_any _ _).mono ?_; rw [Ho.out]; rintro e w' ⟨rfl, rfl⟩) | (go_at_call 83; refine (mark_any _ _).mono ?_; rw [Hm.out]; rintro e w' ⟨rfl, rfl⟩))
          exact bodyPost_ret (v := .tuple #[tokV 6 0 (s.extract 0 k) 0, .bool true]) (by simp [results, Tryz.results63, go_sem, tokV]) rfl ⟨rfl, (Below.refl _ _).alloc (Nat.le_refl _) _⟩
        | false =>
          have ha : signAt s.data.toList k = none := by
            unfold signAt
            rw [inL_take, decide_eq_false_iff_not] at hm ho
            rw [if_neg ho, if_neg hm]
          have R : Hid (signFrom s.data.toList j = r) := Lib.hid (by rw [← T.out, ha]; rfl)
          have Ho := Lib.hid ho; clear ho ha
          have Hm := Lib.hid hm; clear hm
          go_wp2_with (first | (go_at_call 82; refine (operator_any _ _).mono ?_; rw [Ho.out]; rintro e w' ⟨rfl, rfl⟩) | (go_at_call 83; refine (mark_any _ _).mono ?_; rw [Hm.out]; rintro e w' ⟨rfl, rfl⟩))
          go_round
          case rel => exact ⟨j, by have := Hj.out; omega, by have := Hj.out; omega, by congr 1; have := Hj.out; omega, R⟩
          case measure => simp [intOf]; omega
    · obtain rfl : k = 0 := by omega
      have R : Hid (r = none) := Lib.hid (by rw [← he.out]; rfl)
      go_wp2
      exact bodyPost_ret (v := .tuple #[tokV 0 0 ⟨#[]⟩ 0, .bool false]) (by simp [results, Tryz.results63, go_sem, tokV]) rfl (by rw [R.out]; exact ⟨⟨_, _, _, rfl⟩, (Below.refl _ _).alloc (Nat.le_refl _) _⟩)
end Go.Proofs.YtdooeghicdaakaaGreatDoor
