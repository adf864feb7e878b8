import Derived.Test.YtdooeghicdaakaaGreatDoorSign
namespace Go.Proofs.YtdooeghicdaakaaGreatDoor
open Go.RowKit

theorem bcell {W w1 : World} (hb : Below W.heap.size W w1) : (∀ b o, b < W.heap.size → w1.cell? ⟨b, o, none⟩ = W.cell? ⟨b, o, none⟩) ∧ (∀ b o, b < W.heap.size → w1.frozen? ⟨b, o, none⟩ = W.frozen? ⟨b, o, none⟩) :=
  ⟨fun b o h => hb.cell (p := ⟨b, o, none⟩) h, fun b o h => hb.frozen (p := ⟨b, o, none⟩) h⟩

/-- What 'word' hands back: the word that begins at p, or that none does. -/
def WordPost (s : ByteArray) (p : Nat) (w : World) : Option (Int × Nat × Int) → Ending → World → Prop
  | some (k, n, v), e, w' => e = .returned (.tuple #[tokV k p ((s.extract p s.size).extract 0 n) v, .bool true]) ∧ Below w.heap.size w w'
  | none, e, w' => e = .returned (.tuple #[tokV 0 0 ⟨#[]⟩ 0, .bool false]) ∧ Below w.heap.size w w'

theorem below_four {N : Nat} {w w' : World} (h : Below N w w') (b : Nat) (hb : N ≤ b) (v0 v1 v2 v3 : Value) :
    Below N w ((((w'.setCell ⟨b, 0, none⟩ v0).setCell ⟨b, 1, none⟩ v1).setCell ⟨b, 2, none⟩ v2).setCell ⟨b, 3, none⟩ v3) :=
  (((h.setCell (p := ⟨b, 0, none⟩) hb v0).setCell (p := ⟨b, 1, none⟩) hb v1).setCell (p := ⟨b, 2, none⟩) hb v2).setCell (p := ⟨b, 3, none⟩) hb v3
theorem below_word {w w1 : World} {o : Obj} (hb : Below (w.alloc o).heap.size (w.alloc o) w1) (hz : w.heap.size < w1.heap.size) (v0 v1 v2 v3 : Value) (o' : Obj) :
    Below w.heap.size w (((((w1.setCell ⟨w.heap.size, 0, none⟩ v0).setCell ⟨w.heap.size, 1, none⟩ v1).setCell ⟨w.heap.size, 2, none⟩ v2).setCell ⟨w.heap.size, 3, none⟩ v3).alloc o') :=
  (below_four (((Below.refl _ _).alloc (Nat.le_refl _) _).trans (hb.mono (by simp))) w.heap.size (Nat.le_refl _) v0 v1 v2 v3).alloc (by simp; omega) _

set_option maxHeartbeats 1000000 in
theorem word_name_some (s : ByteArray) (p : Nat) (w : World) (hs : s.size ≤ 1000000) (hp : p < s.size) (hb : beginB (s[p]'hp) = true) (k : Int) (n : Nat) (v : Int)
    (hr : nameOf (s.extract p s.size).data.toList = some (k, n, v)) :
    Calls Tryz.prog 45 #[.string s, .int .i64 p] w (WordPost s p w (some (k, n, v))) := by
  have hts : (s.extract p s.size).size ≤ 1000000 := by rw [ByteArray.size_extract]; omega
  have Hb := Lib.hid hb; clear hb
  have Hr := Lib.hid hr; clear hr
  go_enter Tryz.func45, Tryz.ntmps45
  go_wp2_with (go_at_call 64; refine (begin_any _ _).mono ?_; rw [Hb.out]; rintro e w' ⟨rfl, rfl⟩)
  refine (name_read _ _ hts).mono ?_
  rw [Hr.out]
  rintro e w1 ⟨rfl, hb1⟩
  unfold tokV
  obtain ⟨hc, hf⟩ := bcell hb1
  have hz : w.heap.size < w1.heap.size := by have := hb1.size; simp at this; omega
  go_wp2
  exact bodyPost_ret (v := .tuple #[tokV k p ((s.extract p s.size).extract 0 n) v, .bool true]) (by simp [results, Tryz.results45, go_sem, tokV, hc, hz]) rfl ⟨rfl, below_word hb1 hz _ _ _ _ _⟩

set_option maxHeartbeats 1000000 in
theorem word_name_none (s : ByteArray) (p : Nat) (w : World) (hs : s.size ≤ 1000000) (hp : p < s.size) (hb : beginB (s[p]'hp) = true) (hr : nameOf (s.extract p s.size).data.toList = none) :
    Calls Tryz.prog 45 #[.string s, .int .i64 p] w (WordPost s p w (none)) := by
  have hts : (s.extract p s.size).size ≤ 1000000 := by rw [ByteArray.size_extract]; omega
  have Hb := Lib.hid hb; clear hb
  have Hr := Lib.hid hr; clear hr
  go_enter Tryz.func45, Tryz.ntmps45
  go_wp2_with (go_at_call 64; refine (begin_any _ _).mono ?_; rw [Hb.out]; rintro e w' ⟨rfl, rfl⟩)
  refine (name_read _ _ hts).mono ?_
  rw [Hr.out]
  rintro e w1 ⟨⟨k, t, v, rfl⟩, hb1⟩
  unfold tokV
  obtain ⟨hc, hf⟩ := bcell hb1
  have hz : w.heap.size < w1.heap.size := by have := hb1.size; simp at this; omega
  go_wp2
  exact bodyPost_ret (v := .tuple #[tokV 0 0 ⟨#[]⟩ 0, .bool false]) (by simp [results, Tryz.results45, go_sem, tokV, hc, hz]) rfl ⟨rfl, below_word hb1 hz _ _ _ _ _⟩

set_option maxHeartbeats 1000000 in
theorem word_number_some (s : ByteArray) (p : Nat) (w : World) (hs : s.size ≤ 1000000) (hp : p < s.size) (hb : beginB (s[p]'hp) = false) (hd : digitB (s[p]'hp) = true) (k : Int) (n : Nat) (v : Int)
    (hr : numberOf (s.extract p s.size).data.toList = some (k, n, v)) :
    Calls Tryz.prog 45 #[.string s, .int .i64 p] w (WordPost s p w (some (k, n, v))) := by
  have hts : (s.extract p s.size).size ≤ 1000000 := by rw [ByteArray.size_extract]; omega
  have Hb := Lib.hid hb; clear hb
  have Hd := Lib.hid hd; clear hd
  have Hr := Lib.hid hr; clear hr
  go_enter Tryz.func45, Tryz.ntmps45
  go_wp2_with (first | (go_at_call 64; refine (begin_any _ _).mono ?_; rw [Hb.out]; rintro e w' ⟨rfl, rfl⟩) | (go_at_call 66; refine (digit_any _ _).mono ?_; rw [Hd.out]; rintro e w' ⟨rfl, rfl⟩))
  refine (number_read _ _ hts).mono ?_
  rw [Hr.out]
  rintro e w1 ⟨rfl, hb1⟩
  unfold tokV
  obtain ⟨hc, hf⟩ := bcell hb1
  have hz : w.heap.size < w1.heap.size := by have := hb1.size; simp at this; omega
  go_wp2
  exact bodyPost_ret (v := .tuple #[tokV k p ((s.extract p s.size).extract 0 n) v, .bool true]) (by simp [results, Tryz.results45, go_sem, tokV, hc, hz]) rfl ⟨rfl, below_word hb1 hz _ _ _ _ _⟩

set_option maxHeartbeats 1000000 in
theorem word_number_none (s : ByteArray) (p : Nat) (w : World) (hs : s.size ≤ 1000000) (hp : p < s.size) (hb : beginB (s[p]'hp) = false) (hd : digitB (s[p]'hp) = true) (hr : numberOf (s.extract p s.size).data.toList = none) :
    Calls Tryz.prog 45 #[.string s, .int .i64 p] w (WordPost s p w (none)) := by
  have hts : (s.extract p s.size).size ≤ 1000000 := by rw [ByteArray.size_extract]; omega
  have Hb := Lib.hid hb; clear hb
  have Hd := Lib.hid hd; clear hd
  have Hr := Lib.hid hr; clear hr
  go_enter Tryz.func45, Tryz.ntmps45
  go_wp2_with (first | (go_at_call 64; refine (begin_any _ _).mono ?_; rw [Hb.out]; rintro e w' ⟨rfl, rfl⟩) | (go_at_call 66; refine (digit_any _ _).mono ?_; rw [Hd.out]; rintro e w' ⟨rfl, rfl⟩))
  refine (number_read _ _ hts).mono ?_
  rw [Hr.out]
  rintro e w1 ⟨⟨k, t, v, rfl⟩, hb1⟩
  unfold tokV
  obtain ⟨hc, hf⟩ := bcell hb1
  have hz : w.heap.size < w1.heap.size := by have := hb1.size; simp at this; omega
  go_wp2
  exact bodyPost_ret (v := .tuple #[tokV 0 0 ⟨#[]⟩ 0, .bool false]) (by simp [results, Tryz.results45, go_sem, tokV, hc, hz]) rfl ⟨rfl, below_word hb1 hz _ _ _ _ _⟩

set_option maxHeartbeats 1000000 in
theorem word_letter_some (s : ByteArray) (p : Nat) (w : World) (hs : s.size ≤ 1000000) (hp : p < s.size) (hb : beginB (s[p]'hp) = false) (hd : digitB (s[p]'hp) = false) (hq : (((s[p]'hp).toNat : Int) == 39) = true) (k : Int) (n : Nat) (v : Int)
    (hr : letterOf (s.extract p s.size).data.toList = some (k, n, v)) :
    Calls Tryz.prog 45 #[.string s, .int .i64 p] w (WordPost s p w (some (k, n, v))) := by
  have hts : (s.extract p s.size).size ≤ 1000000 := by rw [ByteArray.size_extract]; omega
  have Hb := Lib.hid hb; clear hb
  have Hd := Lib.hid hd; clear hd
  have Hr := Lib.hid hr; clear hr
  go_enter Tryz.func45, Tryz.ntmps45
  go_wp2_with (first | (go_at_call 64; refine (begin_any _ _).mono ?_; rw [Hb.out]; rintro e w' ⟨rfl, rfl⟩) | (go_at_call 66; refine (digit_any _ _).mono ?_; rw [Hd.out]; rintro e w' ⟨rfl, rfl⟩))
  refine (letter_read _ _ hts).mono ?_
  rw [Hr.out]
  rintro e w1 ⟨rfl, hb1⟩
  unfold tokV
  obtain ⟨hc, hf⟩ := bcell hb1
  have hz : w.heap.size < w1.heap.size := by have := hb1.size; simp at this; omega
  go_wp2
  exact bodyPost_ret (v := .tuple #[tokV k p ((s.extract p s.size).extract 0 n) v, .bool true]) (by simp [results, Tryz.results45, go_sem, tokV, hc, hz]) rfl ⟨rfl, below_word hb1 hz _ _ _ _ _⟩

set_option maxHeartbeats 1000000 in
theorem word_letter_none (s : ByteArray) (p : Nat) (w : World) (hs : s.size ≤ 1000000) (hp : p < s.size) (hb : beginB (s[p]'hp) = false) (hd : digitB (s[p]'hp) = false) (hq : (((s[p]'hp).toNat : Int) == 39) = true) (hr : letterOf (s.extract p s.size).data.toList = none) :
    Calls Tryz.prog 45 #[.string s, .int .i64 p] w (WordPost s p w (none)) := by
  have hts : (s.extract p s.size).size ≤ 1000000 := by rw [ByteArray.size_extract]; omega
  have Hb := Lib.hid hb; clear hb
  have Hd := Lib.hid hd; clear hd
  have Hr := Lib.hid hr; clear hr
  go_enter Tryz.func45, Tryz.ntmps45
  go_wp2_with (first | (go_at_call 64; refine (begin_any _ _).mono ?_; rw [Hb.out]; rintro e w' ⟨rfl, rfl⟩) | (go_at_call 66; refine (digit_any _ _).mono ?_; rw [Hd.out]; rintro e w' ⟨rfl, rfl⟩))
  refine (letter_read _ _ hts).mono ?_
  rw [Hr.out]
  rintro e w1 ⟨⟨k, t, v, rfl⟩, hb1⟩
  unfold tokV
  obtain ⟨hc, hf⟩ := bcell hb1
  have hz : w.heap.size < w1.heap.size := by have := hb1.size; simp at this; omega
  go_wp2
  exact bodyPost_ret (v := .tuple #[tokV 0 0 ⟨#[]⟩ 0, .bool false]) (by simp [results, Tryz.results45, go_sem, tokV, hc, hz]) rfl ⟨rfl, below_word hb1 hz _ _ _ _ _⟩

set_option maxHeartbeats 1000000 in
theorem word_sign_some (s : ByteArray) (p : Nat) (w : World) (hs : s.size ≤ 1000000) (hp : p < s.size) (hb : beginB (s[p]'hp) = false) (hd : digitB (s[p]'hp) = false) (hq : (((s[p]'hp).toNat : Int) == 39) = false) (k : Int) (n : Nat) (v : Int)
    (hr : signFrom (s.extract p s.size).data.toList (min 2 (s.extract p s.size).size) = some (k, n, v)) :
    Calls Tryz.prog 45 #[.string s, .int .i64 p] w (WordPost s p w (some (k, n, v))) := by
  have hts : (s.extract p s.size).size ≤ 1000000 := by rw [ByteArray.size_extract]; omega
  have Hb := Lib.hid hb; clear hb
  have Hd := Lib.hid hd; clear hd
  have Hr := Lib.hid hr; clear hr
  go_enter Tryz.func45, Tryz.ntmps45
  go_wp2_with (first | (go_at_call 64; refine (begin_any _ _).mono ?_; rw [Hb.out]; rintro e w' ⟨rfl, rfl⟩) | (go_at_call 66; refine (digit_any _ _).mono ?_; rw [Hd.out]; rintro e w' ⟨rfl, rfl⟩))
  refine (sign_read _ _ hts).mono ?_
  rw [Hr.out]
  rintro e w1 ⟨rfl, hb1⟩
  unfold tokV
  obtain ⟨hc, hf⟩ := bcell hb1
  have hz : w.heap.size < w1.heap.size := by have := hb1.size; simp at this; omega
  go_wp2
  exact bodyPost_ret (v := .tuple #[tokV k p ((s.extract p s.size).extract 0 n) v, .bool true]) (by simp [results, Tryz.results45, go_sem, tokV, hc, hz]) rfl ⟨rfl, below_word hb1 hz _ _ _ _ _⟩

set_option maxHeartbeats 1000000 in
theorem word_sign_none (s : ByteArray) (p : Nat) (w : World) (hs : s.size ≤ 1000000) (hp : p < s.size) (hb : beginB (s[p]'hp) = false) (hd : digitB (s[p]'hp) = false) (hq : (((s[p]'hp).toNat : Int) == 39) = false) (hr : signFrom (s.extract p s.size).data.toList (min 2 (s.extract p s.size).size) = none) :
    Calls Tryz.prog 45 #[.string s, .int .i64 p] w (WordPost s p w (none)) := by
  have hts : (s.extract p s.size).size ≤ 1000000 := by rw [ByteArray.size_extract]; omega
  have Hb := Lib.hid hb; clear hb
  have Hd := Lib.hid hd; clear hd
  have Hr := Lib.hid hr; clear hr
  go_enter Tryz.func45, Tryz.ntmps45
  go_wp2_with (first | (go_at_call 64; refine (begin_any _ _).mono ?_; rw [Hb.out]; rintro e w' ⟨rfl, rfl⟩) | (go_at_call 66; refine (digit_any _ _).mono ?_; rw [Hd.out]; rintro e w' ⟨rfl, rfl⟩))
  refine (sign_read _ _ hts).mono ?_
  rw [Hr.out]
  rintro e w1 ⟨⟨k, t, v, rfl⟩, hb1⟩
  unfold tokV
  obtain ⟨hc, hf⟩ := bcell hb1
  have hz : w.heap.size < w1.heap.size := by have := hb1.size; simp at this; omega
  go_wp2
  exact bodyPost_ret (v := .tuple #[tokV 0 0 ⟨#[]⟩ 0, .bool false]) (by simp [results, Tryz.results45, go_sem, tokV, hc, hz]) rfl ⟨rfl, below_word hb1 hz _ _ _ _ _⟩

theorem headD_drop (s : ByteArray) (p : Nat) (hp : p < s.size) : ((s.extract p s.size).data.toList).headD 0 = s[p] := by
  rw [drop_data, drop_cons _ _ (by rw [length_data]; exact hp), getElem_data s p hp]
  rfl
/-- **'word': what begins at p.** -/
theorem word_any (s : ByteArray) (p : Nat) (w : World) (hs : s.size ≤ 1000000) (hp : p < s.size) :
    Calls Tryz.prog 45 #[.string s, .int .i64 p] w (WordPost s p w (wordOf (s.data.toList.drop p))) := by
  have e : wordOf (s.data.toList.drop p) = wordOf (s.extract p s.size).data.toList := by rw [drop_data]
  rw [e]
  unfold wordOf
  rw [headD_drop s p hp, length_data]
  cases hb : beginB s[p] with
  | true =>
    rw [if_pos rfl]
    cases hr : nameOf (s.extract p s.size).data.toList with
    | none => exact word_name_none s p w hs hp hb hr
    | some r => exact word_name_some s p w hs hp hb r.1 r.2.1 r.2.2 hr
  | false =>
    rw [if_neg (by simp)]
    cases hd : digitB s[p] with
    | true =>
      rw [if_pos rfl]
      cases hr : numberOf (s.extract p s.size).data.toList with
      | none => exact word_number_none s p w hs hp hb hd hr
      | some r => exact word_number_some s p w hs hp hb hd r.1 r.2.1 r.2.2 hr
    | false =>
      rw [if_neg (by simp)]
      by_cases hq : s[p].toNat = 39
      · have hq1 : ((s[p].toNat : Int) == 39) = true := by rw [beq_iff_eq]; omega
        rw [if_pos hq]
        cases hr : letterOf (s.extract p s.size).data.toList with
        | none => exact word_letter_none s p w hs hp hb hd hq1 hr
        | some r => exact word_letter_some s p w hs hp hb hd hq1 r.1 r.2.1 r.2.2 hr
      · have hq1 : ((s[p].toNat : Int) == 39) = false := by rw [beq_eq_false_iff_ne]; omega
        rw [if_neg hq]
        cases hr : signFrom (s.extract p s.size).data.toList (min 2 (s.extract p s.size).size) with
        | none => exact word_sign_none s p w hs hp hb hd hq1 hr
        | some r => exact word_sign_some s p w hs hp hb hd hq1 r.1 r.2.1 r.2.2 hr
end Go.Proofs.YtdooeghicdaakaaGreatDoor
