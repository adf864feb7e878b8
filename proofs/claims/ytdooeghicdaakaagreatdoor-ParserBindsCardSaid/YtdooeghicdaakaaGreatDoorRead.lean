import Derived.Test.YtdooeghicdaakaaGreatDoorName
namespace Go.Proofs.YtdooeghicdaakaaGreatDoor
open Go.RowKit

/-- What a reader hands back: the word at the head, or that there is none. -/
def ReadPost (s : ByteArray) (w : World) : Option (Int × Nat × Int) → Ending → World → Prop
  | some (k, n, v), e, w' => e = .returned (.tuple #[tokV k 0 (s.extract 0 n) v, .bool true]) ∧ Below w.heap.size w w'
  | none, e, w' => (∃ (k : Int) (t : ByteArray) (v : Int), e = .returned (.tuple #[tokV k 0 t v, .bool false])) ∧ Below w.heap.size w w'

theorem name_read (s : ByteArray) (w : World) (hs : s.size ≤ 1000000) :
    Calls Tryz.prog 65 #[.string s] w (ReadPost s w (nameOf s.data.toList)) := by
  refine (name_any s w hs).mono ?_
  rintro e w' ⟨rfl, hb⟩
  unfold nameOf
  split
  · rename_i h; rw [h]; exact ⟨⟨_, _, _, rfl⟩, hb⟩
  · rename_i h; exact ⟨by rw [show (kindOf (List.take (nameLen s.data.toList) s.data.toList) != 0) = true from by simpa using h], hb⟩

theorem wrap_small (x : Int) (h : -9223372036854775808 ≤ x) (h2 : x ≤ 9223372036854775807) : wrap64 x = x := by
  unfold wrap64
  omega
theorem number_step (l : List UInt8) (k : Nat) (v c : Int) (h : k + 1 ≤ digLen l) (h15 : k + 1 ≤ 15) (hv : v = valOf (l.take k)) (hc : 48 ≤ c) (hc2 : c ≤ 57) :
    wrap64 (wrap64 (v * 10) + (c - 48)) = valOf (l.take k) * 10 + (c - 48) := by
  have b := valOf_small l k (by omega) (by omega)
  rw [← hv] at b ⊢
  rw [wrap_small (v * 10) (by omega) (by omega), wrap_small _ (by omega) (by omega)]
theorem number_end (s : ByteArray) (w w' : World) (k : Nat) (v : Int) (hk : k = digLen s.data.toList) (hv : k ≤ 15 → v = valOf (s.data.toList.take k)) (hb : Below w.heap.size w w') :
    ReadPost s w (numberOf s.data.toList) (.returned (.tuple #[tokV 3 0 (s.extract 0 k) v, .bool (decide ((k : Int) ≤ 15))])) w' := by
  unfold numberOf
  rw [← hk]
  by_cases h : k ≤ 15
  · rw [if_pos h, hv h, decide_eq_true (by omega)]
    exact ⟨rfl, hb⟩
  · rw [if_neg h, decide_eq_false (by omega)]
    exact ⟨⟨_, _, _, rfl⟩, hb⟩

set_option maxHeartbeats 1000000 in
theorem number_read (s : ByteArray) (w : World) (hs : s.size ≤ 1000000) :
    Calls Tryz.prog 67 #[.string s] w (ReadPost s w (numberOf s.data.toList)) := by
  have e1 := Lib.hid (length_data s)
  go_enter Tryz.func67, Tryz.ntmps67
  go_wp2
  go_loop [4, 5] (fun vn vv => ∃ (k : Nat) (v : Int), k ≤ s.size ∧ vn = .int .i64 k ∧ vv = .int .i64 v ∧ Hid (k + digLen (s.data.toList.drop k) = digLen s.data.toList ∧ (k ≤ 15 → v = valOf (s.data.toList.take k)))) (fun vn _ => s.size - (intOf vn).toNat)
  case atStart => exact ⟨0, 0, Nat.zero_le _, rfl, rfl, ⟨by simp, fun _ => rfl⟩⟩
  case round =>
    obtain ⟨k, v, hk, rfl, rfl, he⟩ := hrel
    by_cases hlt : k < s.size
    · have hl : k < s.data.toList.length := by rw [e1.out]; exact hlt
      have hg := getElem_data s k hlt
      cases hi : digitB s[k] with
      | true =>
        have T := Lib.hid (digLen_step s.data.toList k hl (by rw [hg]; exact hi))
        have V := Lib.hid (valOf_step s.data.toList k hl)
        rw [hg] at V
        have hd := (digitB_iff _).1 hi
        have hd1 : 48 ≤ (s[k].toNat : Int) := by omega
        have hd2 : (s[k].toNat : Int) ≤ 57 := by omega
        have Hi := Lib.hid hi; clear hi hg hd
        go_wp2_with (go_at_call 66; refine (digit_any _ _).mono ?_; rw [Hi.out]; rintro e w' ⟨rfl, rfl⟩)
        go_round
        case rel =>
          refine ⟨k + 1, _, by omega, by go_num, rfl, ⟨by rw [← T.out]; exact he.out.1, fun h15 => ?_⟩⟩
          rw [V.out]
          exact number_step s.data.toList k v _ (by have := he.out.1; rw [T.out] at this; omega) h15 (he.out.2 (by omega)) hd1 hd2
        case measure => simp [intOf]; omega
      | false =>
        have T := Lib.hid (digLen_stop s.data.toList k hl (by rw [hg]; exact hi))
        have Hi := Lib.hid hi; clear hi hg
        go_wp2_with (go_at_call 66; refine (digit_any _ _).mono ?_; rw [Hi.out]; rintro e w' ⟨rfl, rfl⟩)
        exact bodyPost_ret (v := .tuple #[tokV 3 0 (s.extract 0 k) v, .bool (decide ((k : Int) ≤ 15))]) (by simp [results, Tryz.results67, go_sem, tokV]) rfl (number_end s w _ k v (by rw [← he.out.1, T.out]) he.out.2 ((Below.refl _ _).alloc (Nat.le_refl _) _))
    · obtain rfl : k = s.size := by omega
      have T := Lib.hid (digLen_end s.data.toList)
      rw [e1.out] at T
      go_wp2
      exact bodyPost_ret (v := .tuple #[tokV 3 0 (s.extract 0 s.size) v, .bool (decide ((s.size : Int) ≤ 15))]) (by simp [results, Tryz.results67, go_sem, tokV]) rfl (number_end s w _ s.size v (by rw [← he.out.1, T.out]) he.out.2 ((Below.refl _ _).alloc (Nat.le_refl _) _))

theorem toNat_ne (c : UInt8) (n : UInt8) (hc : c ≠ n) : ((c.toNat : Int) != (n.toNat : Int)) = true := by
  rw [bne_iff_ne]
  intro e
  exact hc (UInt8.toNat_inj.1 (by omega))
theorem escV_bd (c : UInt8) : 0 ≤ escV c ∧ escV c ≤ 255 := by
  have := c.toNat_lt
  unfold escV
  split
  · omega
  · split <;> omega

set_option maxHeartbeats 1000000 in
theorem letter_plain (s : ByteArray) (w : World) (hs : s.size ≤ 1000000) (hz : 2 < s.size) (hc : s[1].toNat ≠ 92) :
    Calls Tryz.prog 68 #[.string s] w (ReadPost s w (letterOf s.data.toList)) := by
  have hl : 2 < s.data.toList.length := by rw [length_data]; omega
  have hz1 : 1 < s.size := by omega
  rw [letterOf_plain _ hl (by rw [getElem_data s 1 hz1]; exact hc), getElem_data s 1 hz1, getElem_data s 2 hz]
  have hc1 : ((s[1].toNat : Int) == 92) = false := by rw [beq_eq_false_iff_ne]; omega
  clear hl hc
  cases hp : plainB s[1] with
  | false =>
    rw [if_neg (by simp)]
    have h : ((s[1].toNat : Int) < 32) ∨ (32 ≤ (s[1].toNat : Int) ∧ 126 < (s[1].toNat : Int)) ∨ (32 ≤ (s[1].toNat : Int) ∧ (s[1].toNat : Int) ≤ 126 ∧ ((s[1].toNat : Int) != 39) = false) := by
      simp [plainB] at hp
      simp
      omega
    clear hp
    rcases h with h | ⟨h, h'⟩ | ⟨h, h', h''⟩
    all_goals
      go_enter Tryz.func68, Tryz.ntmps68
      go_wp2
      exact bodyPost_ret (v := .tuple #[tokV 0 0 ⟨#[]⟩ 0, .bool false]) (by simp [results, Tryz.results68, go_sem, tokV]) rfl ⟨⟨_, _, _, rfl⟩, (Below.refl _ _).alloc (Nat.le_refl _) _⟩
  | true =>
    have h : 32 ≤ (s[1].toNat : Int) ∧ (s[1].toNat : Int) ≤ 126 ∧ ((s[1].toNat : Int) != 39) = true := by
      simp [plainB] at hp
      simp
      omega
    clear hp
    obtain ⟨h, h', h''⟩ := h
    by_cases hq : s[2] = 39
    · rw [if_pos ⟨rfl, hq⟩]
      have hq1 : ((s[2].toNat : Int) != 39) = false := by rw [hq]; decide
      clear hq
      go_enter Tryz.func68, Tryz.ntmps68
      go_wp2
      exact bodyPost_ret (v := .tuple #[tokV 4 0 (s.extract 0 3) (s[1].toNat : Int), .bool true]) (by simp [results, Tryz.results68, go_sem, tokV]) rfl ⟨rfl, (Below.refl _ _).alloc (Nat.le_refl _) _⟩
    · rw [if_neg (fun h => hq h.2)]
      have hq1 : ((s[2].toNat : Int) != 39) = true := toNat_ne _ 39 hq
      clear hq
      go_enter Tryz.func68, Tryz.ntmps68
      go_wp2
      exact bodyPost_ret (v := .tuple #[tokV 0 0 ⟨#[]⟩ 0, .bool false]) (by simp [results, Tryz.results68, go_sem, tokV]) rfl ⟨⟨_, _, _, rfl⟩, (Below.refl _ _).alloc (Nat.le_refl _) _⟩

set_option maxHeartbeats 1000000 in
theorem letter_esc (s : ByteArray) (w : World) (hs : s.size ≤ 1000000) (hz : 2 < s.size) (hc : s[1].toNat = 92) :
    Calls Tryz.prog 68 #[.string s] w (ReadPost s w (letterOf s.data.toList)) := by
  have hl : 2 < s.data.toList.length := by rw [length_data]; omega
  have hz1 : 1 < s.size := by omega
  have hc0 : s.data.toList[1].toNat = 92 := by rw [getElem_data s 1 hz1]; exact hc
  have hc1 : ((s[1].toNat : Int) == 92) = true := by rw [beq_iff_eq]; omega
  have ha : (92 : Int) ≤ (s[1].toNat : Int) := by omega
  have ha2 : (s[1].toNat : Int) ≤ 92 := by omega
  have hc2 : ((s[1].toNat : Int) != 39) = true := by rw [bne_iff_ne]; omega
  clear hc
  have hbd := escV_bd (s[2]'hz)
  obtain ⟨bd1, bd2⟩ := hbd
  cases hd : escB (s[2]'hz) with
  | false =>
    rw [letterOf_esc _ hl hc0 (Or.inr (by rw [getElem_data s 2 hz]; exact hd))]
    have Hd := Lib.hid hd; clear hd hl hc0
    go_enter Tryz.func68, Tryz.ntmps68
    go_wp2_with (go_at_call 87; refine (escaped_any _ _).mono ?_; rw [Hd.out]; rintro e w' ⟨rfl, rfl⟩)
    exact bodyPost_ret (v := .tuple #[tokV 0 0 ⟨#[]⟩ 0, .bool false]) (by simp [results, Tryz.results68, go_sem, tokV]) rfl ⟨⟨_, _, _, rfl⟩, (Below.refl _ _).alloc (Nat.le_refl _) _⟩
  | true =>
    by_cases h4 : s.size = 3
    · rw [letterOf_esc _ hl hc0 (Or.inl (by rw [length_data]; exact h4))]
      have h4' : s.size ≤ 3 := by omega
      have Hd := Lib.hid hd; clear hd hl hc0 h4
      go_enter Tryz.func68, Tryz.ntmps68
      go_wp2_with (go_at_call 87; refine (escaped_any _ _).mono ?_; rw [Hd.out]; rintro e w' ⟨rfl, rfl⟩)
      exact bodyPost_ret (v := .tuple #[tokV 0 0 ⟨#[]⟩ 0, .bool false]) (by simp [results, Tryz.results68, go_sem, tokV]) rfl ⟨⟨_, _, _, rfl⟩, (Below.refl _ _).alloc (Nat.le_refl _) _⟩
    · have hz3 : 3 < s.size := by omega
      rw [letterOf_esc4 _ (by rw [length_data]; exact hz3) hc0 (by rw [getElem_data s 2 hz]; exact hd), getElem_data s 3 hz3, getElem_data s 2 hz]
      have Hd := Lib.hid hd; clear hd hl hc0 h4
      by_cases hq : s[3] = 39
      · rw [if_pos hq]
        have hq1 : ((s[3].toNat : Int) != 39) = false := by rw [hq]; decide
        clear hq
        go_enter Tryz.func68, Tryz.ntmps68
        go_wp2_with (go_at_call 87; refine (escaped_any _ _).mono ?_; rw [Hd.out]; rintro e w' ⟨rfl, rfl⟩)
        exact bodyPost_ret (v := .tuple #[tokV 4 0 (s.extract 0 4) (escV s[2]), .bool true]) (by simp [results, Tryz.results68, go_sem, tokV]) rfl ⟨rfl, (Below.refl _ _).alloc (Nat.le_refl _) _⟩
      · rw [if_neg hq]
        have hq1 : ((s[3].toNat : Int) != 39) = true := toNat_ne _ 39 hq
        clear hq
        go_enter Tryz.func68, Tryz.ntmps68
        go_wp2_with (go_at_call 87; refine (escaped_any _ _).mono ?_; rw [Hd.out]; rintro e w' ⟨rfl, rfl⟩)
        exact bodyPost_ret (v := .tuple #[tokV 0 0 ⟨#[]⟩ 0, .bool false]) (by simp [results, Tryz.results68, go_sem, tokV]) rfl ⟨⟨_, _, _, rfl⟩, (Below.refl _ _).alloc (Nat.le_refl _) _⟩

set_option maxHeartbeats 1000000 in
theorem letter_read (s : ByteArray) (w : World) (hs : s.size ≤ 1000000) :
    Calls Tryz.prog 68 #[.string s] w (ReadPost s w (letterOf s.data.toList)) := by
  by_cases h3 : s.size < 3
  · rw [letterOf_short _ (by rw [length_data]; exact h3)]
    go_enter Tryz.func68, Tryz.ntmps68
    go_wp2
    exact bodyPost_ret (v := .tuple #[tokV 0 0 ⟨#[]⟩ 0, .bool false]) (by simp [results, Tryz.results68, go_sem, tokV]) rfl ⟨⟨_, _, _, rfl⟩, (Below.refl _ _).alloc (Nat.le_refl _) _⟩
  · by_cases hc : (s[1]'(by omega)).toNat = 92
    · exact letter_esc s w hs (by omega) hc
    · exact letter_plain s w hs (by omega) hc
end Go.Proofs.YtdooeghicdaakaaGreatDoor
