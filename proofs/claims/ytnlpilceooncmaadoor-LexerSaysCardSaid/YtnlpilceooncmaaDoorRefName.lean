/- The reference's names and letters. -/
import Derived.Test.YtnlpilceooncmaaDoorRef
namespace Go.Proofs.YtnlpilceooncmaaDoor
open Go.RowKit

theorem innerLen_all (l : List UInt8) : innerLen l = l.length ↔ l.all innerB = true := by
  induction l with
  | nil => simp [innerLen]
  | cons c r ih =>
    have := innerLen_le r
    by_cases h : innerB c = true
    · simp [innerLen, h, ih]
    · simp [innerLen, h]
theorem begin_inner (c : UInt8) (h : beginB c = true) : innerB c = true := by unfold innerB; simp [h]
theorem kind_spec (c : UInt8) (r : List UInt8) : kindOf (c :: r) = if beginB c = true ∧ r.all innerB = true ∧ r.length < 40 then (if (c :: r) = [95] ∨ (c :: r) ∈ wordsL then 6 else if greatB c then 2 else 1) else 0 := by
  by_cases h : beginB c = true ∧ r.all innerB = true ∧ r.length < 40
  · obtain ⟨h1, h2, h3⟩ := h
    have hi := (innerLen_all r).2 h2
    have hn : nameLen (c :: r) = r.length + 1 := by rw [nameLen, if_pos h1, hi]
    rw [if_pos ⟨h1, h2, h3⟩]
    unfold kindOf
    rw [if_neg (by rw [hn, List.length_cons]; omega)]
    rfl
  · rw [if_neg h]
    refine kindOf_none _ ?_
    by_cases h1 : beginB c = true
    · have hn : nameLen (c :: r) = innerLen r + 1 := by rw [nameLen, if_pos h1]
      have hle := innerLen_le r
      rw [hn, List.length_cons]
      by_cases h2 : r.all innerB = true
      · have hi := (innerLen_all r).2 h2
        have : ¬ r.length < 40 := fun h3 => h ⟨h1, h2, h3⟩
        omega
      · have : innerLen r ≠ r.length := fun e => h2 ((innerLen_all r).1 e)
        omega
    · exact .inl (by rw [nameLen, if_neg h1])
theorem small_not_great (c : UInt8) (h : smallB c = true) : greatB c = false := by
  unfold smallB at h; unfold greatB
  simp at h ⊢; omega
def nameOK (l : List UInt8) (first : Bool) : Bool := decide (1 ≤ l.length) && decide (l.length ≤ 40) && first && l.all innerB
theorem words_small : ∀ x ∈ wordsL, smallB (x.headD 0) = true := by decide
theorem low_spec (c : UInt8) (r : List UInt8) : (kindOf (c :: r) == 1) = (nameOK (c :: r) (smallB c) && !decide ((c :: r) = [95]) && !decide ((c :: r) ∈ wordsL)) := by
  rw [kind_spec, Bool.eq_iff_iff]
  by_cases hs : smallB c = true
  · have hg := small_not_great c hs
    have hb : beginB c = true := by rw [beginB_eq]; simp [hs]
    have hin := begin_inner c hb
    by_cases hm : (c :: r) = [95] ∨ (c :: r) ∈ wordsL
    · by_cases h : beginB c = true ∧ r.all innerB = true ∧ r.length < 40
      · rw [if_pos h, if_pos hm]; rcases hm with hm | hm <;> simp [hm]
      · rw [if_neg h]; rcases hm with hm | hm <;> simp [hm]
    · by_cases h : beginB c = true ∧ r.all innerB = true ∧ r.length < 40
      · rw [if_pos h, if_neg hm]
        rw [not_or] at hm
        simp [hg, nameOK, hs, hin, h.2.1, hm.1, hm.2]
        omega
      · rw [if_neg h]
        simp [nameOK, hs, hin]
        intro h40 hall
        exact absurd ⟨hb, by simpa using hall, by omega⟩ h
  · have : nameOK (c :: r) (smallB c) = false := by simp [nameOK, hs]
    rw [this]
    by_cases h : beginB c = true ∧ r.all innerB = true ∧ r.length < 40
    · have hg : greatB c = true := by have := h.1; rw [beginB_eq] at this; simpa [hs] using this
      rw [if_pos h]
      split
      · simp
      · simp [hg]
    · rw [if_neg h]; simp
theorem high_spec (c : UInt8) (r : List UInt8) : (kindOf (c :: r) == 2) = nameOK (c :: r) (greatB c) := by
  rw [kind_spec, Bool.eq_iff_iff]
  by_cases hg : greatB c = true
  · have hb : beginB c = true := by rw [beginB_eq]; simp [hg]
    have hin := begin_inner c hb
    have hns : smallB c = false := by
      cases h : smallB c with
      | false => rfl
      | true => rw [small_not_great c h] at hg; cases hg
    have hm : ¬ ((c :: r) = [95] ∨ (c :: r) ∈ wordsL) := by
      rintro (h | h)
      · simp at h; rw [h.1] at hg; simp [greatB] at hg
      · have := words_small _ h
        simp [hns] at this
    by_cases h : beginB c = true ∧ r.all innerB = true ∧ r.length < 40
    · rw [if_pos h, if_neg hm]
      simp [hg, nameOK, hin]
      exact ⟨by omega, by simpa using h.2.1⟩
    · rw [if_neg h]
      simp [nameOK, hg, hin]
      intro h40
      by_cases hall : r.all innerB = true
      · exact absurd ⟨hb, hall, by omega⟩ h
      · simpa using hall
  · have : nameOK (c :: r) (greatB c) = false := by simp [nameOK, hg]
    rw [this]
    by_cases h : beginB c = true ∧ r.all innerB = true ∧ r.length < 40
    · rw [if_pos h]
      split
      · simp
      · simp [hg]
    · rw [if_neg h]; simp

set_option maxHeartbeats 1000000 in
theorem rname_any (s : ByteArray) (first : Bool) (w : World) (hs : s.size ≤ 1000000) :
    Calls Tryd.prog 37 #[.string s, .bool first] w fun e w' => e = .returned (.bool (nameOK s.data.toList first)) ∧ w = w' := by
  have e1 := Lib.hid (length_data s)
  by_cases h1 : s.size < 1
  · have hno : nameOK s.data.toList first = false := by unfold nameOK; rw [e1.out]; simp; omega
    have HN := Lib.hid hno; clear hno
    go_enter Tryd.func37, Tryd.ntmps37
    go_wp2
    go_ret
    exact ⟨ret_bool HN.out.symm, rfl⟩
  · by_cases h2 : 40 < s.size
    · have hno : nameOK s.data.toList first = false := by unfold nameOK; rw [e1.out]; simp; omega
      have HN := Lib.hid hno; clear hno
      go_enter Tryd.func37, Tryd.ntmps37
      go_wp2
      go_ret
      exact ⟨ret_bool HN.out.symm, rfl⟩
    · cases first
      · have hno : nameOK s.data.toList false = false := by unfold nameOK; simp
        have HN := Lib.hid hno; clear hno
        go_enter Tryd.func37, Tryd.ntmps37
        go_wp2
        go_ret
        exact ⟨ret_bool HN.out.symm, rfl⟩
      · go_enter Tryd.func37, Tryd.ntmps37
        go_wp2_with fail
        go_loopw [5] (fun vi wr => ∃ i : Nat, vi = .int .i64 (i : Int) ∧ i ≤ s.size ∧ Hid ((s.data.toList.take i).all innerB = true) ∧ w = wr) (fun vi _ => s.size - (intOf vi).toNat)
        case atStart => exact ⟨0, rfl, Nat.zero_le _, Lib.hid (by simp), rfl⟩
        case round =>
          obtain ⟨i, rfl, hi, hall, rfl⟩ := hrel
          by_cases hlt : i < s.size
          · have hl : i < s.data.toList.length := by rw [e1.out]; exact hlt
            have hge := getElem_data s i hlt
            obtain ⟨c, hc⟩ : ∃ c, s[i] = c := ⟨_, rfl⟩
            rw [hc] at hge
            by_cases hin : innerB c = true
            · have hall' : (s.data.toList.take (i + 1)).all innerB = true := by
                rw [List.take_succ_eq_append_getElem hl, List.all_append, hall.out, hge]; simp [hin]
              have HALL := Lib.hid hall'; clear hall' hge
              go_wp2_with (go_at_call 43; refine (rinner_any c _).mono ?_; rintro e w' ⟨rfl, rfl⟩)
              go_roundw
              case rel => exact ⟨i + 1, by go_num, by omega, HALL, trivial⟩
              case measure => simp [intOf]; omega
            · have hno : nameOK s.data.toList true = false := by
                unfold nameOK
                have : s.data.toList.all innerB = false := by
                  rw [List.all_eq_false]
                  exact ⟨c, hge ▸ List.getElem_mem hl, hin⟩
                rw [this]; simp
              have HN := Lib.hid hno; clear hno hge
              go_wp2_with (go_at_call 43; refine (rinner_any c _).mono ?_; rintro e w' ⟨rfl, rfl⟩)
              go_ret
              exact ⟨ret_bool HN.out.symm, rfl⟩
          · obtain rfl : i = s.size := by omega
            have hyes : nameOK s.data.toList true = true := by
              have ha := hall.out
              rw [← e1.out, List.take_length] at ha
              unfold nameOK
              rw [e1.out, ha]
              simp; omega
            have HY := Lib.hid hyes; clear hyes
            go_wp2
            go_ret
            exact ⟨ret_bool HY.out.symm, rfl⟩

set_option maxHeartbeats 1000000 in
theorem rlow_any (s : ByteArray) (w : World) (hs : s.size ≤ 1000000) :
    Calls Tryd.prog 19 #[.string s] w fun e w' => e = .returned (.bool (kindOf s.data.toList == 1)) ∧ Below w.heap.size w w' := by
  have e1 := Lib.hid (length_data s)
  by_cases h0 : s.size = 0
  · have hk : (kindOf s.data.toList == 1) = false := by rw [kindOf_none _ (.inl (by have : s.data.toList = [] := List.length_eq_zero_iff.1 (by rw [e1.out]; exact h0); rw [this]; rfl))]; rfl
    have HK := Lib.hid hk; clear hk
    go_enter Tryd.func19, Tryd.ntmps19
    go_wp2
    go_ret
    exact ⟨ret_bool HK.out.symm, Below.refl _ _⟩
  · have h1 : 0 < s.size := by omega
    have hge := getElem_data s 0 h1
    obtain ⟨c, hc⟩ : ∃ c, s[0] = c := ⟨_, rfl⟩
    rw [hc] at hge
    have hk : (kindOf s.data.toList == 1) = (nameOK s.data.toList (smallB c) && !decide (s.data.toList = [95]) && !decide (s.data.toList ∈ wordsL)) := by
      cases hl : s.data.toList with
      | nil => simp [hl] at hge; rw [hl] at e1; have := e1.out; simp at this; omega
      | cons a r =>
        have ha : a = c := by simpa [hl] using hge
        rw [ha]; exact low_spec c r
    have h95 : decide (s.data.toList = [95]) = (s.toList == [95]) := by rw [Lib.toList_data, Bool.eq_iff_iff]; simp
    have hwd : decide (s.data.toList ∈ wordsL) = inL s wordsL := by rw [Bool.eq_iff_iff, inL_iff]; simp
    rw [h95, hwd] at hk
    have HK := Lib.hid hk; clear hk h95 hwd hge
    go_enter Tryd.func19, Tryd.ntmps19
    go_wp2_with (first | (go_at_call 38; refine (rsmall_any c _).mono ?_; rintro e w' ⟨rfl, rfl⟩) | (go_at_call 37; refine (rname_any s _ _ hs).mono ?_; rintro e w' ⟨rfl, rfl⟩) | (go_at_call 25; refine (rreserved_any s _).mono ?_; rintro e w2 ⟨rfl, hb2⟩))
    · go_ret
      exact ⟨ret_bool (by rw [HK.out]; simp [*]), Below.refl _ _⟩
    · go_ret
      exact ⟨ret_bool (by rw [HK.out]; simp [*]), hb2⟩
    · go_ret
      exact ⟨ret_bool (by rw [HK.out]; simp [*]), Below.refl _ _⟩

set_option maxHeartbeats 1000000 in
theorem rhigh_any (s : ByteArray) (w : World) (hs : s.size ≤ 1000000) :
    Calls Tryd.prog 21 #[.string s] w fun e w' => e = .returned (.bool (kindOf s.data.toList == 2)) ∧ w = w' := by
  have e1 := Lib.hid (length_data s)
  by_cases h0 : s.size = 0
  · have hk : (kindOf s.data.toList == 2) = false := by rw [kindOf_none _ (.inl (by have : s.data.toList = [] := List.length_eq_zero_iff.1 (by rw [e1.out]; exact h0); rw [this]; rfl))]; rfl
    have HK := Lib.hid hk; clear hk
    go_enter Tryd.func21, Tryd.ntmps21
    go_wp2
    go_ret
    exact ⟨ret_bool HK.out.symm, rfl⟩
  · have h1 : 0 < s.size := by omega
    have hge := getElem_data s 0 h1
    obtain ⟨c, hc⟩ : ∃ c, s[0] = c := ⟨_, rfl⟩
    rw [hc] at hge
    have hk : (kindOf s.data.toList == 2) = nameOK s.data.toList (greatB c) := by
      cases hl : s.data.toList with
      | nil => simp [hl] at hge; rw [hl] at e1; have := e1.out; simp at this; omega
      | cons a r =>
        have ha : a = c := by simpa [hl] using hge
        rw [ha]; exact high_spec c r
    have HK := Lib.hid hk; clear hk hge
    go_enter Tryd.func21, Tryd.ntmps21
    go_wp2_with (first | (go_at_call 39; refine (rgreat_any c _).mono ?_; rintro e w' ⟨rfl, rfl⟩) | (go_at_call 37; refine (rname_any s _ _ hs).mono ?_; rintro e w' ⟨rfl, rfl⟩))
    go_ret
    exact ⟨ret_bool HK.out.symm, rfl⟩
end Go.Proofs.YtnlpilceooncmaaDoor
