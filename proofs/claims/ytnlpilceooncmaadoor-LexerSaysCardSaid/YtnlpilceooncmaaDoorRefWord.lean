/- The reference's word at the head of a slice of bytes. -/
import Derived.Test.YtnlpilceooncmaaDoorRefWordPlain
import Derived.StillTailTactics
namespace Go.Proofs.YtnlpilceooncmaaDoor
open Go.RowKit

/-- What the reference's 'word' hands back. -/
def RWordPost (s : ByteArray) (w : World) : Option (Int × Nat × Int) → Ending → World → Prop
  | some (k, n, v), e, w' => e = .returned (.tuple #[tokV k 0 (s.extract 0 n) v, .int .i64 n]) ∧ Below w.heap.size w w'
  | none, e, w' => e = .returned (.tuple #[tokV 0 0 ⟨#[]⟩ 0, .int .i64 0]) ∧ Below w.heap.size w w'

theorem rcell (b o : Nat) (s : ByteArray) (w : World) (hb : Lib.Bytes w b o s) (c : UInt8) (hs : 0 < s.size) (hc : s[0] = c) : w.cell? ⟨b, o, none⟩ = some (.int .u8 (c.toNat : Int)) := by
  have := hb 0 hs
  rw [hc] at this
  exact this

theorem conv_head (b o cap : Nat) (s : ByteArray) (w : World) (hb : Lib.Bytes w b o s) (n : Nat) (hn : n ≤ s.size) (W : World) (hW : Below w.heap.size w W) :
    (convert 22 9 (.slice (some ⟨b, o, none⟩) n cap)).run Tryd.prog W = .ok (.string (s.extract 0 n)) W := by
  have := Lib.run_convert_window (P := Tryd.prog) W 22 5 9 Tryd.underlying22 Tryd.underlying5 Tryd.underlying9 b o s (bytes_later hb hW) 0 n cap (by omega)
  simpa using this
theorem letter_kind (l : List UInt8) (k : Int) (n : Nat) (v : Int) (h : letterOf l = some (k, n, v)) : k = 4 := by
  unfold letterOf at h
  split at h
  · split at h
    · split at h
      · simp at h; exact h.1.symm
      · simp at h
    · split at h
      · simp at h; exact h.1.symm
      · simp at h
  · simp at h

set_option maxHeartbeats 4000000 in
set_option maxRecDepth 100000 in
theorem rword_letter (b o cap : Nat) (s : ByteArray) (w : World) (hb : Lib.Bytes w b o s) (hs : s.size ≤ 20000) (hs0 : 0 < s.size) (hcap : s.size ≤ cap) (c : UInt8) (hc : s[0] = c)
    (h1 : smallB c = false) (h2 : greatB c = false) (h3 : digitB c = false) (h4 : ((c.toNat : Int) == 39) = true) :
    Calls Tryd.prog 28 #[.slice (some ⟨b, o, none⟩) s.size cap] w (RWordPost s w (letterOf s.data.toList)) := by
  have c0 := rcell b o s w hb c hs0 hc
  have hz : b < w.heap.size := World.block_lt_of_cell? _ _ c0
  have HL := Lib.hid (fun W hW => rletter_any (some ⟨b, o, none⟩) cap s W (.inr ⟨b, o, rfl, bytes_later hb hW⟩) (by omega))
  have H1 := Lib.hid h1; clear h1
  have H2 := Lib.hid h2; clear h2
  have H3 := Lib.hid h3; clear h3
  have HB := Lib.hid hb; clear hb
  have HC := Lib.hid hc; clear hc
  cases hl : letterOf s.data.toList with
  | none =>
    obtain ⟨e1, e2⟩ := let_none _ hl
    have E1 := Lib.hid e1; clear e1
    have E2 := Lib.hid e2; clear e2 hl
    go_enter Tryd.func28, Tryd.ntmps28
    go_wp2_with (first | (go_at_call 38; refine (rsmall_any c _).mono ?_; rw [H1.out]; rintro e w' ⟨rfl, rfl⟩) | (go_at_call 39; refine (rgreat_any c _).mono ?_; rw [H2.out]; rintro e w' ⟨rfl, rfl⟩) | (go_at_call 44; refine (rdigit_any c _).mono ?_; rw [H3.out]; rintro e w' ⟨rfl, rfl⟩) | (go_at_call 45; refine (HL.out _ ((Below.refl _ _).alloc (Nat.le_refl _) _)).mono ?_; rw [E1.out, E2.out]; rintro e w1 ⟨rfl, hb1⟩; obtain ⟨hc1, hf1⟩ := bcell hb1; have HB1 := Lib.hid hb1; clear hb1))
    exact bodyPost_ret (v := .tuple #[tokV 0 0 ⟨#[]⟩ 0, .int .i64 0]) (by simp [results, Tryd.results28, go_sem, tokV, hc1, hf1]) rfl ⟨rfl, below_four (((Below.refl _ _).alloc (Nat.le_refl _) _).trans (HB1.out.mono (by simp))) w.heap.size (Nat.le_refl _) _ _ _ _⟩
  | some r =>
    obtain ⟨k, n, v⟩ := r
    obtain ⟨e1, e2⟩ := let_some _ k n v hl
    have hn := letterOf_len _ k n v hl
    rw [length_data] at hn
    obtain ⟨hn1, hn2⟩ := hn
    have hk : k = 4 := letter_kind _ k n v hl
    subst hk
    have E1 := Lib.hid e1; clear e1
    have E2 := Lib.hid e2; clear e2 hl
    have hn0 : ((n : Int) == 0) = false := by rw [beq_eq_false_iff_ne]; omega
    go_enter Tryd.func28, Tryd.ntmps28
    go_wp2_with (first | (go_at_call 38; refine (rsmall_any c _).mono ?_; rw [H1.out]; rintro e w' ⟨rfl, rfl⟩) | (go_at_call 39; refine (rgreat_any c _).mono ?_; rw [H2.out]; rintro e w' ⟨rfl, rfl⟩) | (go_at_call 44; refine (rdigit_any c _).mono ?_; rw [H3.out]; rintro e w' ⟨rfl, rfl⟩) | (go_at_call 45; refine (HL.out _ ((Below.refl _ _).alloc (Nat.le_refl _) _)).mono ?_; rw [E1.out, E2.out]; rintro e w1 ⟨rfl, hb1⟩; obtain ⟨hc1, hf1⟩ := bcell hb1; have HB1 := Lib.hid hb1; have hcv := conv_head b o cap s w HB.out n hn2 w1 (((Below.refl _ _).alloc (Nat.le_refl _) _).trans (hb1.mono (by simp))); clear hb1))
    exact bodyPost_ret (v := .tuple #[tokV 4 0 (s.extract 0 n) v, .int .i64 n]) (by simp [results, Tryd.results28, go_sem, tokV, hc1]) rfl ⟨rfl, below_four (((Below.refl _ _).alloc (Nat.le_refl _) _).trans (HB1.out.mono (by simp))) w.heap.size (Nat.le_refl _) _ _ _ _⟩

set_option maxHeartbeats 4000000 in
set_option maxRecDepth 100000 in
/-- The loop of a name: its signs, then what is left. -/
theorem rword_name (b o cap : Nat) (s : ByteArray) (w : World) (hb : Lib.Bytes w b o s) (hs : s.size ≤ 20000) (hs0 : 0 < s.size) (hcap : s.size ≤ cap) (c : UInt8) (hc : s[0] = c) (hbeg : beginB c = true) :
    Calls Tryd.prog 28 #[.slice (some ⟨b, o, none⟩) s.size cap] w (RWordPost s w (nameOf s.data.toList)) := by
  have c0 := rcell b o s w hb c hs0 hc
  have hz : b < w.heap.size := World.block_lt_of_cell? _ _ c0
  have e1 := Lib.hid (length_data s)
  have hle := nameLen_le s.data.toList
  have hg := getElem_data s 0 hs0
  rw [hc] at hg
  have hlp : 0 < s.data.toList.length := by rw [e1.out]; exact hs0
  have hstart := nameLen_begin s.data.toList hlp (by rw [hg]; exact hbeg)
  have hspec : nameOf s.data.toList = if 40 < nameLen s.data.toList then none else some (nameR c (s.data.toList.take (nameLen s.data.toList)), nameLen s.data.toList, 0) := by
    cases hl : s.data.toList with
    | nil => rw [hl] at hlp; simp at hlp
    | cons a r =>
      have ha : a = c := by simpa [hl] using hg
      subst ha
      exact nameOf_spec a r hbeg
  have hte : s.data.toList.take (nameLen s.data.toList) = (s.extract 0 (nameLen s.data.toList)).data.toList := by rw [Lib.extract_data]; simp
  rw [hte] at hspec
  rw [hspec]
  rw [e1.out] at hle
  obtain ⟨N, hN⟩ : ∃ N, nameLen s.data.toList = N := ⟨_, rfl⟩
  rw [hN] at hle hstart ⊢
  have hcv := fun ob => conv_head b o cap s w hb N hle (w.alloc ob) ((Below.refl _ _).alloc (Nat.le_refl _) _)
  obtain ⟨t, ht⟩ : ∃ t, s.extract 0 N = t := ⟨_, rfl⟩
  rw [ht] at hcv ⊢
  have hbe := beginB_eq c
  rw [hbeg] at hbe
  have HN := Lib.hid hN; clear hN
  have HT := Lib.hid ht; clear ht hspec hte hg
  have HST := Lib.hid hstart; clear hstart
  have HBE := Lib.hid hbe; clear hbe hbeg
  have HCC := Lib.hid hc; clear hc
  have HBY := Lib.hid hb; clear hb
  obtain ⟨sb, hsb⟩ : ∃ sb, smallB c = sb := ⟨_, rfl⟩
  obtain ⟨gb, hgb⟩ : ∃ gb, greatB c = gb := ⟨_, rfl⟩
  have h12 : (sb || gb) = true := by rw [← hsb, ← hgb]; exact HBE.out.symm
  have hnr : nameR c t.data.toList = if gb then 2 else if t.toList == [95] || inL t wordsL then 6 else 1 := by
    unfold nameR
    rw [hgb]
    cases gb
    · simp only [Bool.false_eq_true, if_false]
      have : (t.data.toList = [95] ∨ t.data.toList ∈ wordsL) ↔ (t.toList == [95] || inL t wordsL) = true := by
        rw [Bool.or_eq_true, inL_iff, Lib.toList_data]; simp
      by_cases h : (t.toList == [95] || inL t wordsL) = true
      · rw [if_pos h, if_pos (this.2 h)]
      · rw [if_neg h, if_neg (fun q => h (this.1 q))]
    · rfl
  rw [hnr]
  clear hnr
  have H1 := Lib.hid hsb; clear hsb
  have H2 := Lib.hid hgb; clear hgb
  have HCV := Lib.hid hcv; clear hcv
  obtain ⟨res, hr⟩ : ∃ res : Option (Int × Nat × Int), (if 40 < N then none else some (if gb then 2 else if t.toList == [95] || inL t wordsL then 6 else 1, N, 0)) = res := ⟨_, rfl⟩
  rw [hr]
  have HR := Lib.hid hr; clear hr
  cases gb with
  | true =>
    have hsf : sb = false := by
      cases sb with
      | false => rfl
      | true => have := small_not_great c H1.out; rw [H2.out] at this; cases this
    subst hsf
    clear h12
    go_enter Tryd.func28, Tryd.ntmps28
    go_wp2_with (first | (go_at_call 38; refine (rsmall_any c _).mono ?_; rw [H1.out]; rintro e w' ⟨rfl, rfl⟩) | (go_at_call 39; refine (rgreat_any c _).mono ?_; rw [H2.out]; rintro e w' ⟨rfl, rfl⟩))
    all_goals
      go_loop [5] (fun v => ∃ k : Nat, 1 ≤ k ∧ k ≤ s.size ∧ v = .int .i64 k ∧ Hid (k + innerLen (s.data.toList.drop k) = N)) (fun v => s.size - (intOf v).toNat)
      case atStart => exact ⟨1, Nat.le_refl _, hs0, rfl, HST⟩
      case round =>
        obtain ⟨k, hk1, hk, rfl, he⟩ := hrel
        by_cases hlt : k < s.size
        · have hl : k < s.data.toList.length := by rw [e1.out]; exact hlt
          have hg := getElem_data s k hlt
          have hck := HBY.out k hlt
          obtain ⟨d, hd⟩ : ∃ d, s[k] = d := ⟨_, rfl⟩
          rw [hd] at hg hck
          cases hi : innerB d with
          | true =>
            have T := Lib.hid (innerLen_step s.data.toList k hl (by rw [hg]; exact hi))
            have Hi := Lib.hid hi; clear hi hg
            go_wp2_with (go_at_call 43; refine (rinner_any d _).mono ?_; rw [Hi.out]; rintro e w' ⟨rfl, rfl⟩)
            go_round
            case rel => exact ⟨k + 1, by omega, by omega, by go_num, by rw [← T.out]; exact he.out⟩
            case measure => simp [intOf]; omega
          | false =>
            have T := Lib.hid (innerLen_stop s.data.toList k hl (by rw [hg]; exact hi))
            have Hi := Lib.hid hi; clear hi hg
            have hkN : k = N := T.out.symm.trans he.out
            subst hkN
            clear he T HST
            have hcv := HCV.out
            by_cases h40 : 40 < k
            · go_wp2_with (first | (go_at_call 43; refine (rinner_any d _).mono ?_; rw [Hi.out]; rintro e w' ⟨rfl, rfl⟩) | (go_at_call 39; refine (rgreat_any c _).mono ?_; rw [H2.out]; rintro e w' ⟨rfl, rfl⟩))
              exact bodyPost_ret (v := .tuple #[tokV 0 0 ⟨#[]⟩ 0, .int .i64 0]) (by simp [results, Tryd.results28, go_sem, tokV]) rfl (by rw [← HR.out, if_pos h40]; exact ⟨rfl, (Below.refl _ _).alloc (Nat.le_refl _) _⟩)
            · go_wp2_with (first | (go_at_call 43; refine (rinner_any d _).mono ?_; rw [Hi.out]; rintro e w' ⟨rfl, rfl⟩) | (go_at_call 39; refine (rgreat_any c _).mono ?_; rw [H2.out]; rintro e w' ⟨rfl, rfl⟩))
              exact bodyPost_ret (v := .tuple #[tokV 2 0 t 0, .int .i64 (k : Nat)]) (by simp [results, Tryd.results28, go_sem, tokV]) rfl (by rw [← HR.out, if_neg h40]; exact ⟨by rw [HT.out]; rfl, (Below.refl _ _).alloc (Nat.le_refl _) _⟩)
        · obtain rfl : k = s.size := by omega
          have T := innerLen_end s.data.toList
          rw [e1.out] at T
          have hkN : s.size = N := T.symm.trans he.out
          subst hkN
          clear he T HST
          have hcv := HCV.out
          by_cases h40 : 40 < s.size
          · go_wp2_with (first | (go_at_call 39; refine (rgreat_any c _).mono ?_; rw [H2.out]; rintro e w' ⟨rfl, rfl⟩))
            exact bodyPost_ret (v := .tuple #[tokV 0 0 ⟨#[]⟩ 0, .int .i64 0]) (by simp [results, Tryd.results28, go_sem, tokV]) rfl (by rw [← HR.out, if_pos h40]; exact ⟨rfl, (Below.refl _ _).alloc (Nat.le_refl _) _⟩)
          · go_wp2_with (first | (go_at_call 39; refine (rgreat_any c _).mono ?_; rw [H2.out]; rintro e w' ⟨rfl, rfl⟩))
            exact bodyPost_ret (v := .tuple #[tokV 2 0 t 0, .int .i64 (s.size : Nat)]) (by simp [results, Tryd.results28, go_sem, tokV]) rfl (by rw [← HR.out, if_neg h40]; exact ⟨by rw [HT.out]; rfl, (Below.refl _ _).alloc (Nat.le_refl _) _⟩)
  | false =>
    have hsf : sb = true := by simpa using h12
    subst hsf
    clear h12
    cases hu : (t.toList == [95]) with
    | true =>
      rw [hu] at HR
      go_enter Tryd.func28, Tryd.ntmps28
      go_wp2_with (first | (go_at_call 38; refine (rsmall_any c _).mono ?_; rw [H1.out]; rintro e w' ⟨rfl, rfl⟩) | (go_at_call 39; refine (rgreat_any c _).mono ?_; rw [H2.out]; rintro e w' ⟨rfl, rfl⟩))
      all_goals
        go_loop [5] (fun v => ∃ k : Nat, 1 ≤ k ∧ k ≤ s.size ∧ v = .int .i64 k ∧ Hid (k + innerLen (s.data.toList.drop k) = N)) (fun v => s.size - (intOf v).toNat)
        case atStart => exact ⟨1, Nat.le_refl _, hs0, rfl, HST⟩
        case round =>
          obtain ⟨k, hk1, hk, rfl, he⟩ := hrel
          by_cases hlt : k < s.size
          · have hl : k < s.data.toList.length := by rw [e1.out]; exact hlt
            have hg := getElem_data s k hlt
            have hck := HBY.out k hlt
            obtain ⟨d, hd⟩ : ∃ d, s[k] = d := ⟨_, rfl⟩
            rw [hd] at hg hck
            cases hi : innerB d with
            | true =>
              have T := Lib.hid (innerLen_step s.data.toList k hl (by rw [hg]; exact hi))
              have Hi := Lib.hid hi; clear hi hg
              go_wp2_with (go_at_call 43; refine (rinner_any d _).mono ?_; rw [Hi.out]; rintro e w' ⟨rfl, rfl⟩)
              go_round
              case rel => exact ⟨k + 1, by omega, by omega, by go_num, by rw [← T.out]; exact he.out⟩
              case measure => simp [intOf]; omega
            | false =>
              have T := Lib.hid (innerLen_stop s.data.toList k hl (by rw [hg]; exact hi))
              have Hi := Lib.hid hi; clear hi hg
              have hkN : k = N := T.out.symm.trans he.out
              subst hkN
              clear he T HST
              have hcv := HCV.out
              by_cases h40 : 40 < k
              · go_wp2_with (first | (go_at_call 43; refine (rinner_any d _).mono ?_; rw [Hi.out]; rintro e w' ⟨rfl, rfl⟩) | (go_at_call 39; refine (rgreat_any c _).mono ?_; rw [H2.out]; rintro e w' ⟨rfl, rfl⟩))
                exact bodyPost_ret (v := .tuple #[tokV 0 0 ⟨#[]⟩ 0, .int .i64 0]) (by simp [results, Tryd.results28, go_sem, tokV]) rfl (by rw [← HR.out, if_pos h40]; exact ⟨rfl, (Below.refl _ _).alloc (Nat.le_refl _) _⟩)
              · go_wp2_with (first | (go_at_call 43; refine (rinner_any d _).mono ?_; rw [Hi.out]; rintro e w' ⟨rfl, rfl⟩) | (go_at_call 39; refine (rgreat_any c _).mono ?_; rw [H2.out]; rintro e w' ⟨rfl, rfl⟩))
                exact bodyPost_ret (v := .tuple #[tokV 6 0 t 0, .int .i64 (k : Nat)]) (by simp [results, Tryd.results28, go_sem, tokV]) rfl (by rw [← HR.out, if_neg h40]; exact ⟨by rw [HT.out]; rfl, (Below.refl _ _).alloc (Nat.le_refl _) _⟩)
          · obtain rfl : k = s.size := by omega
            have T := innerLen_end s.data.toList
            rw [e1.out] at T
            have hkN : s.size = N := T.symm.trans he.out
            subst hkN
            clear he T HST
            have hcv := HCV.out
            by_cases h40 : 40 < s.size
            · go_wp2_with (first | (go_at_call 39; refine (rgreat_any c _).mono ?_; rw [H2.out]; rintro e w' ⟨rfl, rfl⟩))
              exact bodyPost_ret (v := .tuple #[tokV 0 0 ⟨#[]⟩ 0, .int .i64 0]) (by simp [results, Tryd.results28, go_sem, tokV]) rfl (by rw [← HR.out, if_pos h40]; exact ⟨rfl, (Below.refl _ _).alloc (Nat.le_refl _) _⟩)
            · go_wp2_with (first | (go_at_call 39; refine (rgreat_any c _).mono ?_; rw [H2.out]; rintro e w' ⟨rfl, rfl⟩))
              exact bodyPost_ret (v := .tuple #[tokV 6 0 t 0, .int .i64 (s.size : Nat)]) (by simp [results, Tryd.results28, go_sem, tokV]) rfl (by rw [← HR.out, if_neg h40]; exact ⟨by rw [HT.out]; rfl, (Below.refl _ _).alloc (Nat.le_refl _) _⟩)
    | false =>
      rw [hu] at HR
      cases hwd : inL t wordsL with
      | true =>
        rw [hwd] at HR
        have HWD := Lib.hid hwd; clear hwd
        go_enter Tryd.func28, Tryd.ntmps28
        go_wp2_with (first | (go_at_call 38; refine (rsmall_any c _).mono ?_; rw [H1.out]; rintro e w' ⟨rfl, rfl⟩) | (go_at_call 39; refine (rgreat_any c _).mono ?_; rw [H2.out]; rintro e w' ⟨rfl, rfl⟩))
        all_goals
          go_loop [5] (fun v => ∃ k : Nat, 1 ≤ k ∧ k ≤ s.size ∧ v = .int .i64 k ∧ Hid (k + innerLen (s.data.toList.drop k) = N)) (fun v => s.size - (intOf v).toNat)
          case atStart => exact ⟨1, Nat.le_refl _, hs0, rfl, HST⟩
          case round =>
            obtain ⟨k, hk1, hk, rfl, he⟩ := hrel
            by_cases hlt : k < s.size
            · have hl : k < s.data.toList.length := by rw [e1.out]; exact hlt
              have hg := getElem_data s k hlt
              have hck := HBY.out k hlt
              obtain ⟨d, hd⟩ : ∃ d, s[k] = d := ⟨_, rfl⟩
              rw [hd] at hg hck
              cases hi : innerB d with
              | true =>
                have T := Lib.hid (innerLen_step s.data.toList k hl (by rw [hg]; exact hi))
                have Hi := Lib.hid hi; clear hi hg
                go_wp2_with (go_at_call 43; refine (rinner_any d _).mono ?_; rw [Hi.out]; rintro e w' ⟨rfl, rfl⟩)
                go_round
                case rel => exact ⟨k + 1, by omega, by omega, by go_num, by rw [← T.out]; exact he.out⟩
                case measure => simp [intOf]; omega
              | false =>
                have T := Lib.hid (innerLen_stop s.data.toList k hl (by rw [hg]; exact hi))
                have Hi := Lib.hid hi; clear hi hg
                have hkN : k = N := T.out.symm.trans he.out
                subst hkN
                clear he T HST
                have hcv := HCV.out
                by_cases h40 : 40 < k
                · go_wp2_with (first | (go_at_call 43; refine (rinner_any d _).mono ?_; rw [Hi.out]; rintro e w' ⟨rfl, rfl⟩) | (go_at_call 39; refine (rgreat_any c _).mono ?_; rw [H2.out]; rintro e w' ⟨rfl, rfl⟩) | (go_at_call 25; refine (rreserved_any t _).mono ?_; rw [HWD.out]; rintro e w1 ⟨rfl, hb1⟩; obtain ⟨hc1, hf1⟩ := bcell hb1; have HB1 := Lib.hid hb1; clear hb1))
                  exact bodyPost_ret (v := .tuple #[tokV 0 0 ⟨#[]⟩ 0, .int .i64 0]) (by simp [results, Tryd.results28, go_sem, tokV, hc1]) rfl (by rw [← HR.out, if_pos h40]; exact ⟨rfl, below_four (((Below.refl _ _).alloc (Nat.le_refl _) _).trans (HB1.out.mono (by simp))) w.heap.size (Nat.le_refl _) _ _ _ _⟩)
                · go_wp2_with (first | (go_at_call 43; refine (rinner_any d _).mono ?_; rw [Hi.out]; rintro e w' ⟨rfl, rfl⟩) | (go_at_call 39; refine (rgreat_any c _).mono ?_; rw [H2.out]; rintro e w' ⟨rfl, rfl⟩) | (go_at_call 25; refine (rreserved_any t _).mono ?_; rw [HWD.out]; rintro e w1 ⟨rfl, hb1⟩; obtain ⟨hc1, hf1⟩ := bcell hb1; have HB1 := Lib.hid hb1; clear hb1))
                  exact bodyPost_ret (v := .tuple #[tokV 6 0 t 0, .int .i64 (k : Nat)]) (by simp [results, Tryd.results28, go_sem, tokV, hc1]) rfl (by rw [← HR.out, if_neg h40]; exact ⟨by rw [HT.out]; rfl, below_four (((Below.refl _ _).alloc (Nat.le_refl _) _).trans (HB1.out.mono (by simp))) w.heap.size (Nat.le_refl _) _ _ _ _⟩)
            · obtain rfl : k = s.size := by omega
              have T := innerLen_end s.data.toList
              rw [e1.out] at T
              have hkN : s.size = N := T.symm.trans he.out
              subst hkN
              clear he T HST
              have hcv := HCV.out
              by_cases h40 : 40 < s.size
              · go_wp2_with (first | (go_at_call 39; refine (rgreat_any c _).mono ?_; rw [H2.out]; rintro e w' ⟨rfl, rfl⟩) | (go_at_call 25; refine (rreserved_any t _).mono ?_; rw [HWD.out]; rintro e w1 ⟨rfl, hb1⟩; obtain ⟨hc1, hf1⟩ := bcell hb1; have HB1 := Lib.hid hb1; clear hb1))
                exact bodyPost_ret (v := .tuple #[tokV 0 0 ⟨#[]⟩ 0, .int .i64 0]) (by simp [results, Tryd.results28, go_sem, tokV, hc1]) rfl (by rw [← HR.out, if_pos h40]; exact ⟨rfl, below_four (((Below.refl _ _).alloc (Nat.le_refl _) _).trans (HB1.out.mono (by simp))) w.heap.size (Nat.le_refl _) _ _ _ _⟩)
              · go_wp2_with (first | (go_at_call 39; refine (rgreat_any c _).mono ?_; rw [H2.out]; rintro e w' ⟨rfl, rfl⟩) | (go_at_call 25; refine (rreserved_any t _).mono ?_; rw [HWD.out]; rintro e w1 ⟨rfl, hb1⟩; obtain ⟨hc1, hf1⟩ := bcell hb1; have HB1 := Lib.hid hb1; clear hb1))
                exact bodyPost_ret (v := .tuple #[tokV 6 0 t 0, .int .i64 (s.size : Nat)]) (by simp [results, Tryd.results28, go_sem, tokV, hc1]) rfl (by rw [← HR.out, if_neg h40]; exact ⟨by rw [HT.out]; rfl, below_four (((Below.refl _ _).alloc (Nat.le_refl _) _).trans (HB1.out.mono (by simp))) w.heap.size (Nat.le_refl _) _ _ _ _⟩)
      | false =>
        rw [hwd] at HR
        have HWD := Lib.hid hwd; clear hwd
        go_enter Tryd.func28, Tryd.ntmps28
        go_wp2_with (first | (go_at_call 38; refine (rsmall_any c _).mono ?_; rw [H1.out]; rintro e w' ⟨rfl, rfl⟩) | (go_at_call 39; refine (rgreat_any c _).mono ?_; rw [H2.out]; rintro e w' ⟨rfl, rfl⟩))
        all_goals
          go_loop [5] (fun v => ∃ k : Nat, 1 ≤ k ∧ k ≤ s.size ∧ v = .int .i64 k ∧ Hid (k + innerLen (s.data.toList.drop k) = N)) (fun v => s.size - (intOf v).toNat)
          case atStart => exact ⟨1, Nat.le_refl _, hs0, rfl, HST⟩
          case round =>
            obtain ⟨k, hk1, hk, rfl, he⟩ := hrel
            by_cases hlt : k < s.size
            · have hl : k < s.data.toList.length := by rw [e1.out]; exact hlt
              have hg := getElem_data s k hlt
              have hck := HBY.out k hlt
              obtain ⟨d, hd⟩ : ∃ d, s[k] = d := ⟨_, rfl⟩
              rw [hd] at hg hck
              cases hi : innerB d with
              | true =>
                have T := Lib.hid (innerLen_step s.data.toList k hl (by rw [hg]; exact hi))
                have Hi := Lib.hid hi; clear hi hg
                go_wp2_with (go_at_call 43; refine (rinner_any d _).mono ?_; rw [Hi.out]; rintro e w' ⟨rfl, rfl⟩)
                go_round
                case rel => exact ⟨k + 1, by omega, by omega, by go_num, by rw [← T.out]; exact he.out⟩
                case measure => simp [intOf]; omega
              | false =>
                have T := Lib.hid (innerLen_stop s.data.toList k hl (by rw [hg]; exact hi))
                have Hi := Lib.hid hi; clear hi hg
                have hkN : k = N := T.out.symm.trans he.out
                subst hkN
                clear he T HST
                have hcv := HCV.out
                by_cases h40 : 40 < k
                · go_wp2_with (first | (go_at_call 43; refine (rinner_any d _).mono ?_; rw [Hi.out]; rintro e w' ⟨rfl, rfl⟩) | (go_at_call 39; refine (rgreat_any c _).mono ?_; rw [H2.out]; rintro e w' ⟨rfl, rfl⟩) | (go_at_call 25; refine (rreserved_any t _).mono ?_; rw [HWD.out]; rintro e w1 ⟨rfl, hb1⟩; obtain ⟨hc1, hf1⟩ := bcell hb1; have HB1 := Lib.hid hb1; clear hb1))
                  exact bodyPost_ret (v := .tuple #[tokV 0 0 ⟨#[]⟩ 0, .int .i64 0]) (by simp [results, Tryd.results28, go_sem, tokV, hc1]) rfl (by rw [← HR.out, if_pos h40]; exact ⟨rfl, below_four (((Below.refl _ _).alloc (Nat.le_refl _) _).trans (HB1.out.mono (by simp))) w.heap.size (Nat.le_refl _) _ _ _ _⟩)
                · go_wp2_with (first | (go_at_call 43; refine (rinner_any d _).mono ?_; rw [Hi.out]; rintro e w' ⟨rfl, rfl⟩) | (go_at_call 39; refine (rgreat_any c _).mono ?_; rw [H2.out]; rintro e w' ⟨rfl, rfl⟩) | (go_at_call 25; refine (rreserved_any t _).mono ?_; rw [HWD.out]; rintro e w1 ⟨rfl, hb1⟩; obtain ⟨hc1, hf1⟩ := bcell hb1; have HB1 := Lib.hid hb1; clear hb1))
                  exact bodyPost_ret (v := .tuple #[tokV 1 0 t 0, .int .i64 (k : Nat)]) (by simp [results, Tryd.results28, go_sem, tokV, hc1]) rfl (by rw [← HR.out, if_neg h40]; exact ⟨by rw [HT.out]; rfl, below_four (((Below.refl _ _).alloc (Nat.le_refl _) _).trans (HB1.out.mono (by simp))) w.heap.size (Nat.le_refl _) _ _ _ _⟩)
            · obtain rfl : k = s.size := by omega
              have T := innerLen_end s.data.toList
              rw [e1.out] at T
              have hkN : s.size = N := T.symm.trans he.out
              subst hkN
              clear he T HST
              have hcv := HCV.out
              by_cases h40 : 40 < s.size
              · go_wp2_with (first | (go_at_call 39; refine (rgreat_any c _).mono ?_; rw [H2.out]; rintro e w' ⟨rfl, rfl⟩) | (go_at_call 25; refine (rreserved_any t _).mono ?_; rw [HWD.out]; rintro e w1 ⟨rfl, hb1⟩; obtain ⟨hc1, hf1⟩ := bcell hb1; have HB1 := Lib.hid hb1; clear hb1))
                exact bodyPost_ret (v := .tuple #[tokV 0 0 ⟨#[]⟩ 0, .int .i64 0]) (by simp [results, Tryd.results28, go_sem, tokV, hc1]) rfl (by rw [← HR.out, if_pos h40]; exact ⟨rfl, below_four (((Below.refl _ _).alloc (Nat.le_refl _) _).trans (HB1.out.mono (by simp))) w.heap.size (Nat.le_refl _) _ _ _ _⟩)
              · go_wp2_with (first | (go_at_call 39; refine (rgreat_any c _).mono ?_; rw [H2.out]; rintro e w' ⟨rfl, rfl⟩) | (go_at_call 25; refine (rreserved_any t _).mono ?_; rw [HWD.out]; rintro e w1 ⟨rfl, hb1⟩; obtain ⟨hc1, hf1⟩ := bcell hb1; have HB1 := Lib.hid hb1; clear hb1))
                exact bodyPost_ret (v := .tuple #[tokV 1 0 t 0, .int .i64 (s.size : Nat)]) (by simp [results, Tryd.results28, go_sem, tokV, hc1]) rfl (by rw [← HR.out, if_neg h40]; exact ⟨by rw [HT.out]; rfl, below_four (((Below.refl _ _).alloc (Nat.le_refl _) _).trans (HB1.out.mono (by simp))) w.heap.size (Nat.le_refl _) _ _ _ _⟩)
end Go.Proofs.YtnlpilceooncmaaDoor
