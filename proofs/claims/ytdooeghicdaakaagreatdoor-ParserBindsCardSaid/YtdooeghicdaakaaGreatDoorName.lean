import Derived.Test.YtdooeghicdaakaaGreatDoorSkip
namespace Go.Proofs.YtdooeghicdaakaaGreatDoor
open Go.RowKit

theorem length_data (s : ByteArray) : s.data.toList.length = s.size := (Lib.size_eq s).symm
theorem inL_iff (s : ByteArray) (l : List (List UInt8)) : inL s l = true ↔ s.data.toList ∈ l := by
  unfold inL
  rw [Lib.toList_data]
  simp

set_option maxHeartbeats 1000000 in
theorem nameLength_any (s : ByteArray) (w : World) (hs : s.size ≤ 1000000) :
    Calls Tryz.prog 85 #[.string s] w fun e w' => e = .returned (.int .i64 (nameLen s.data.toList : Nat)) ∧ w = w' := by
  have e1 := Lib.hid (length_data s)
  by_cases h0 : s.size = 0
  · have hl : s.toList = [] := by
      rw [Lib.toList_data]; exact List.length_eq_zero_iff.1 (by rw [e1.out]; exact h0)
    have hn : nameLen s.data.toList = 0 := by rw [← Lib.toList_data, hl]; rfl
    have Hn := Lib.hid hn; clear hn h0
    go_enter Tryz.func85, Tryz.ntmps85
    go_wp2
    go_ret
    exact ⟨ret_int (by rw [Hn.out]; rfl), rfl⟩
  · have hp : 0 < s.size := by omega
    have hlp : 0 < s.data.toList.length := by rw [e1.out]; exact hp
    have hne : (s.toList == []) = false := by
      rw [Lib.toList_data]; simpa using List.ne_nil_of_length_pos hlp
    have hne2 : s.toList.isEmpty = false := by
      rw [Lib.toList_data, List.isEmpty_eq_false_iff]; exact List.ne_nil_of_length_pos hlp
    clear h0
    have hg := getElem_data s 0 hp
    cases hb : beginB s[0] with
    | false =>
      have Hn := Lib.hid (nameLen_none s.data.toList hlp (by rw [hg]; exact hb))
      have Hb := Lib.hid hb; clear hb hg
      go_enter Tryz.func85, Tryz.ntmps85
      go_wp2_with (go_at_call 64; refine (begin_any _ _).mono ?_; rw [Hb.out]; rintro e w' ⟨rfl, rfl⟩)
      go_ret
      exact ⟨ret_int (by rw [Hn.out]; rfl), rfl⟩
    | true =>
      have Hn := Lib.hid (nameLen_begin s.data.toList hlp (by rw [hg]; exact hb))
      have Hb := Lib.hid hb; clear hb hg
      go_enter Tryz.func85, Tryz.ntmps85
      go_wp2_with (go_at_call 64; refine (begin_any _ _).mono ?_; rw [Hb.out]; rintro e w' ⟨rfl, rfl⟩)
      go_loop [3] (fun v => ∃ k : Nat, 1 ≤ k ∧ k ≤ s.size ∧ v = .int .i64 k ∧ Hid (k + innerLen (s.data.toList.drop k) = nameLen s.data.toList)) (fun v => s.size - (intOf v).toNat)
      case atStart => exact ⟨1, Nat.le_refl _, hp, rfl, Hn⟩
      case round =>
        obtain ⟨k, hk1, hk, rfl, he⟩ := hrel
        by_cases hlt : k < s.size
        · have hl : k < s.data.toList.length := by rw [e1.out]; exact hlt
          have hg := getElem_data s k hlt
          cases hi : innerB s[k] with
          | true =>
            have T := Lib.hid (innerLen_step s.data.toList k hl (by rw [hg]; exact hi))
            have Hi := Lib.hid hi; clear hi hg
            go_wp2_with (go_at_call 100; refine (inner_any _ _).mono ?_; rw [Hi.out]; rintro e w' ⟨rfl, rfl⟩)
            go_round
            case rel => exact ⟨k + 1, by omega, by omega, by go_num, by rw [← T.out]; exact he.out⟩
            case measure => simp [intOf]; omega
          | false =>
            have T := Lib.hid (innerLen_stop s.data.toList k hl (by rw [hg]; exact hi))
            have Hi := Lib.hid hi; clear hi hg
            go_wp2_with (go_at_call 100; refine (inner_any _ _).mono ?_; rw [Hi.out]; rintro e w' ⟨rfl, rfl⟩)
            go_ret
            exact ⟨ret_int (by rw [← he.out, T.out]), rfl⟩
        · obtain rfl : k = s.size := by omega
          have T := Lib.hid (innerLen_end s.data.toList)
          go_wp2
          go_ret
          exact ⟨ret_int (by rw [← he.out, ← e1.out, T.out]), rfl⟩

set_option maxHeartbeats 1000000 in
theorem nameKind_any (s : ByteArray) (w : World) (hs : s.size ≤ 1000000) :
    Calls Tryz.prog 86 #[.string s] w fun e w' => e = .returned (.int .i64 (kindOf s.data.toList)) ∧ w = w' := by
  have e1 := Lib.hid (length_data s)
  obtain ⟨n, hn⟩ : ∃ n, nameLen s.data.toList = n := ⟨_, rfl⟩
  have hle := nameLen_le s.data.toList
  have hpo := nameLen_pos s.data.toList
  have hk0 := kindOf_none s.data.toList
  have hk1 := kindOf_mark s.data.toList
  have hk2 := kindOf_name s.data.toList
  rw [hn] at hle hpo hk0 hk1 hk2
  rw [e1.out] at hle hpo hk0 hk1
  have Hn := Lib.hid hn; clear hn
  by_cases h0 : n = 0
  · subst h0
    have T := Lib.hid (hk0 (Or.inl rfl)); clear hk0 hk1 hk2 hpo
    go_enter Tryz.func86, Tryz.ntmps86
    go_wp2_with (go_at_call 85; refine (nameLength_any _ _ hs).mono ?_; rw [Hn.out]; rintro e w' ⟨rfl, rfl⟩)
    go_ret
    exact ⟨ret_int (by rw [T.out]), rfl⟩
  · have b0 : ((n : Int) == 0) = false := by rw [beq_eq_false_iff_ne]; omega
    by_cases h1 : n < s.size
    · have T := Lib.hid (hk0 (Or.inr (Or.inl h1))); clear hk0 hk1 hk2 hpo h0
      go_enter Tryz.func86, Tryz.ntmps86
      go_wp2_with (go_at_call 85; refine (nameLength_any _ _ hs).mono ?_; rw [Hn.out]; rintro e w' ⟨rfl, rfl⟩)
      go_ret
      exact ⟨ret_int (by rw [T.out]), rfl⟩
    · by_cases h2 : 40 < n
      · have T := Lib.hid (hk0 (Or.inr (Or.inr h2))); clear hk0 hk1 hk2 hpo h0
        go_enter Tryz.func86, Tryz.ntmps86
        go_wp2_with (go_at_call 85; refine (nameLength_any _ _ hs).mono ?_; rw [Hn.out]; rintro e w' ⟨rfl, rfl⟩)
        go_ret
        exact ⟨ret_int (by rw [T.out]), rfl⟩
      · have hno : ¬ (n = 0 ∨ n < s.size ∨ 40 < n) := by omega
        have hp : 0 < s.size := by omega
        have hlp : 0 < s.data.toList.length := by rw [e1.out]; exact hp
        have hg := getElem_data s 0 hp
        have hk2' := fun h2 => hk2 (by rw [e1.out]; exact hno) h2 hlp
        have hk1' := hk1 hno
        clear hk0 hk1 hk2 hpo h0 hno
        cases hu : (s.toList == [95]) with
        | true =>
          have T := Lib.hid (hk1' (Or.inl (by rw [← Lib.toList_data]; simpa using hu))); clear hk1' hk2' hg
          go_enter Tryz.func86, Tryz.ntmps86
          go_wp2_with (go_at_call 85; refine (nameLength_any _ _ hs).mono ?_; rw [Hn.out]; rintro e w' ⟨rfl, rfl⟩)
          go_ret
          exact ⟨ret_int (by rw [T.out]), rfl⟩
        | false =>
          cases hr : inL s wordsL with
          | true =>
            have T := Lib.hid (hk1' (Or.inr ((inL_iff _ _).1 hr))); clear hk1' hk2' hg
            have Hr := Lib.hid hr; clear hr
            go_enter Tryz.func86, Tryz.ntmps86
            go_wp2_with (first | (go_at_call 85; refine (nameLength_any _ _ hs).mono ?_; rw [Hn.out]; rintro e w' ⟨rfl, rfl⟩) | (go_at_call 101; refine (reserved_any _ _).mono ?_; rw [Hr.out]; rintro e w' ⟨rfl, rfl⟩))
            go_ret
            exact ⟨ret_int (by rw [T.out]), rfl⟩
          | false =>
            have hno2 : ¬ (s.data.toList = [95] ∨ s.data.toList ∈ wordsL) := by
              rintro (h | h)
              · rw [← Lib.toList_data] at h; simp [h] at hu
              · rw [← inL_iff, hr] at h; cases h
            have T := Lib.hid (hk2' hno2); clear hk1' hk2'
            rw [hg] at T
            have Hr := Lib.hid hr; clear hr hg hno2
            cases hgr : greatB s[0] with
            | true =>
              rw [hgr] at T
              have Hg := Lib.hid hgr; clear hgr
              go_enter Tryz.func86, Tryz.ntmps86
              go_wp2_with (first | (go_at_call 85; refine (nameLength_any _ _ hs).mono ?_; rw [Hn.out]; rintro e w' ⟨rfl, rfl⟩) | (go_at_call 101; refine (reserved_any _ _).mono ?_; rw [Hr.out]; rintro e w' ⟨rfl, rfl⟩) | (go_at_call 84; refine (great_any _ _).mono ?_; rw [Hg.out]; rintro e w' ⟨rfl, rfl⟩))
              go_ret
              exact ⟨ret_int (by rw [T.out]; rfl), rfl⟩
            | false =>
              rw [hgr] at T
              have Hg := Lib.hid hgr; clear hgr
              go_enter Tryz.func86, Tryz.ntmps86
              go_wp2_with (first | (go_at_call 85; refine (nameLength_any _ _ hs).mono ?_; rw [Hn.out]; rintro e w' ⟨rfl, rfl⟩) | (go_at_call 101; refine (reserved_any _ _).mono ?_; rw [Hr.out]; rintro e w' ⟨rfl, rfl⟩) | (go_at_call 84; refine (great_any _ _).mono ?_; rw [Hg.out]; rintro e w' ⟨rfl, rfl⟩))
              go_ret
              exact ⟨ret_int (by rw [T.out]; rfl), rfl⟩



/-- The values of a word as the readers hand it back. -/
def tokV (kind pos : Int) (t : ByteArray) (n : Int) : Value := .agg #[.int .i64 kind, .int .i64 pos, .string t, .int .i64 n]

set_option maxHeartbeats 400000 in
theorem name_any (s : ByteArray) (w : World) (hs : s.size ≤ 1000000) :
    Calls Tryz.prog 65 #[.string s] w fun e w' => e = .returned (.tuple #[tokV (kindOf (s.data.toList.take (nameLen s.data.toList))) 0 (s.extract 0 (nameLen s.data.toList)) 0, .bool (kindOf (s.data.toList.take (nameLen s.data.toList)) != 0)]) ∧ Below w.heap.size w w' := by
  obtain ⟨n, hn⟩ : ∃ n, nameLen s.data.toList = n := ⟨_, rfl⟩
  have hle := nameLen_le s.data.toList
  have hsz : (s.extract 0 n).size ≤ 1000000 := by rw [ByteArray.size_extract]; omega
  rw [hn, length_data] at hle
  rw [hn]
  obtain ⟨k, hk⟩ : ∃ k, kindOf (s.data.toList.take n) = k := ⟨_, rfl⟩
  have hk2 : kindOf (s.extract 0 n).data.toList = k := by rw [← hk, Lib.extract_data]; simp
  rw [hk]
  have Hn := Lib.hid hn; clear hn
  have Hk := Lib.hid hk2; clear hk2 hk
  go_enter Tryz.func65, Tryz.ntmps65
  go_wp2_with (first | (go_at_call 85; refine (nameLength_any _ _ hs).mono ?_; rw [Hn.out]; rintro e w' ⟨rfl, rfl⟩) | (go_at_call 86; refine (nameKind_any _ _ hsz).mono ?_; rw [Hk.out]; rintro e w' ⟨rfl, rfl⟩))
  exact bodyPost_ret (v := .tuple #[tokV k 0 (s.extract 0 n) 0, .bool (k != 0)]) (by simp [results, Tryz.results65, go_sem, tokV]) rfl ⟨rfl, (Below.refl _ _).alloc (Nat.le_refl _) _⟩
end Go.Proofs.YtdooeghicdaakaaGreatDoor
