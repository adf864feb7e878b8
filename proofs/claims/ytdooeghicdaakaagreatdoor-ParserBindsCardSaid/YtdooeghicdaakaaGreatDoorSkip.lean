import Derived.Test.YtdooeghicdaakaaGreatDoorLeaf
namespace Go.Proofs.YtdooeghicdaakaaGreatDoor
open Go.RowKit

theorem drop_data (s : ByteArray) (p : Nat) : (s.extract p s.size).data.toList = s.data.toList.drop p := Lib.extract_to_end s p
theorem getElem_data (s : ByteArray) (k : Nat) (h : k < s.size) : s.data.toList[k]'(by rw [← Lib.size_eq]; exact h) = s[k] := by
  have := Lib.data_getElem? s k h
  rw [List.getElem?_eq_getElem (by rw [← Lib.size_eq]; exact h)] at this
  exact Option.some.inj this

set_option maxHeartbeats 400000 in
theorem lineEnd_any (s : ByteArray) (p : Nat) (w : World) (hs : s.size ≤ 1000000) (hp : p ≤ s.size) :
    Calls Tryz.prog 62 #[.string s, .int .i64 p] w fun e w' => e = .returned (.int .i64 (lineE s.data.toList p : Nat)) ∧ w = w' := by
  have h1 := indexByte_lt (s.data.toList.drop p) 10
  have h2 := Lib.indexByte_ge (s.data.toList.drop p) 10
  have e1 : s.data.toList.length = s.size := (Lib.size_eq s).symm
  rw [List.length_drop, e1] at h1
  have hn := lineE_none s.data.toList p
  have hy := lineE_some s.data.toList p
  have ed := drop_data s p
  have Hn := Lib.hid hn; clear hn
  have Hy := Lib.hid hy; clear hy
  have E1 := Lib.hid e1; clear e1
  have Ed := Lib.hid ed; clear ed
  go_enter Tryz.func62, Tryz.ntmps62
  go_wp2_with (go_at_call 81; refine (indexByte_any _ _ _).mono ?_; rw [Ed.out]; rintro e w' ⟨rfl, rfl⟩)
  all_goals go_ret
  · exact ⟨ret_int (Hy.out (by assumption)).symm, rfl⟩
  · exact ⟨ret_int (by rw [Hn.out (by assumption), E1.out]), rfl⟩

set_option maxHeartbeats 1000000 in
theorem skip_any (s : ByteArray) (p : Nat) (w : World) (hs : s.size ≤ 1000000) (hp : p ≤ s.size) :
    Calls Tryz.prog 44 #[.string s, .int .i64 p] w fun e w' => e = .returned (.int .i64 (skipTo s.data.toList p : Nat)) ∧ w = w' := by
  have e1 : s.data.toList.length = s.size := (Lib.size_eq s).symm
  have E1 := Lib.hid e1; clear e1
  go_enter Tryz.func44, Tryz.ntmps44
  go_wp2
  go_loop [1] (fun v => ∃ k : Nat, k ≤ s.size ∧ v = .int .i64 k ∧ Hid (skipTo s.data.toList k = skipTo s.data.toList p)) (fun v => s.size - (intOf v).toNat)
  case atStart => exact ⟨p, hp, rfl, rfl⟩
  case round =>
    obtain ⟨k, hk, rfl, he⟩ := hrel
    by_cases hlt : k < s.size
    · have hl : k < s.data.toList.length := by rw [E1.out]; exact hlt
      have hg := getElem_data s k hlt
      have hdr := drop_data s k
      cases hb : blankB s[k] with
      | true =>
        have T := Lib.hid (skipTo_blank s.data.toList k hl (by rw [hg]; exact hb))
        have Hg := Lib.hid hg; clear hg
        have Hdr := Lib.hid hdr; clear hdr
        have Hb := Lib.hid hb; clear hb
        go_wp2_with (go_at_call 60; refine (blank_any _ _).mono ?_; rw [Hb.out]; rintro e w' ⟨rfl, rfl⟩)
        go_round
        case rel => exact ⟨k + 1, by omega, by go_num, by rw [← T.out]; exact he.out⟩
        case measure => simp [intOf]; omega
      | false =>
        cases hd : Lib.hasPrefix (s.data.toList.drop k) [45, 45] with
        | true =>
          have T := Lib.hid (skipTo_line s.data.toList k hl (by rw [hg]; exact hb) hd)
          have hgt := lineE_gt s.data.toList k hl (by rw [hg]; exact hb)
          have hle := lineE_le s.data.toList k (by omega)
          rw [E1.out] at hle
          have Hd : Hid (Lib.hasPrefix (s.extract k s.size).data.toList [45, 45] = true) := Lib.hid (by rw [hdr]; exact hd)
          clear hd hg hdr
          have Hb := Lib.hid hb; clear hb
          go_wp2_with (first | (go_at_call 60; refine (blank_any _ _).mono ?_; rw [Hb.out]; rintro e w' ⟨rfl, rfl⟩) | (go_at_call 61; refine (hasPrefix_any _ _ _).mono ?_; rw [Hd.out]; rintro e w' ⟨rfl, rfl⟩) | (go_at_call 62; refine (lineEnd_any _ _ _ hs hk).mono ?_; rintro e w' ⟨rfl, rfl⟩))
          go_round
          case rel => exact ⟨_, hle, rfl, by rw [← T.out]; exact he.out⟩
          case measure => simp [intOf]; omega
        | false =>
          have T := Lib.hid (skipTo_word s.data.toList k hl (by rw [hg]; exact hb) hd)
          have Hd : Hid (Lib.hasPrefix (s.extract k s.size).data.toList [45, 45] = false) := Lib.hid (by rw [hdr]; exact hd)
          clear hd hg hdr
          have Hb := Lib.hid hb; clear hb
          go_wp2_with (first | (go_at_call 60; refine (blank_any _ _).mono ?_; rw [Hb.out]; rintro e w' ⟨rfl, rfl⟩) | (go_at_call 61; refine (hasPrefix_any _ _ _).mono ?_; rw [Hd.out]; rintro e w' ⟨rfl, rfl⟩))
          go_ret
          exact ⟨ret_int (by rw [← he.out, T.out]), rfl⟩
    · have T := Lib.hid (skipTo_end s.data.toList k (by rw [E1.out]; omega))
      go_wp2
      go_ret
      exact ⟨ret_int (by rw [← he.out, T.out]), rfl⟩
end Go.Proofs.YtdooeghicdaakaaGreatDoor
