/- The reference's number at the head of a slice of bytes. -/
import Derived.Test.YtnlpilceooncmaaDoorRefWord
namespace Go.Proofs.YtnlpilceooncmaaDoor
open Go.RowKit

theorem dig_at (l : List UInt8) (i : Nat) (h : i < digLen l) (hl : i < l.length) : digitB l[i] = true := by
  have ha := allDig_take l (digLen l) (Nat.le_refl _)
  refine ha _ ?_
  rw [List.mem_take_iff_getElem]
  exact ⟨i, by omega, rfl⟩
theorem num_val (l : List UInt8) (i : Nat) (hl : i < l.length) (v d : Int) (hv : v = valOf (l.take i)) (hd : (l[i].toNat : Int) = d) : 10 * v + (d - 48) = valOf (l.take (i + 1)) := by
  rw [valOf_step l i hl, hd, hv]; omega

set_option maxHeartbeats 4000000 in
set_option maxRecDepth 100000 in
theorem rword_number (b o cap : Nat) (s : ByteArray) (w : World) (hb : Lib.Bytes w b o s) (hs : s.size ≤ 20000) (hs0 : 0 < s.size) (hcap : s.size ≤ cap) (c : UInt8) (hc : s[0] = c)
    (h1 : smallB c = false) (h2 : greatB c = false) (h3 : digitB c = true) :
    Calls Tryd.prog 28 #[.slice (some ⟨b, o, none⟩) s.size cap] w (RWordPost s w (numberOf s.data.toList)) := by
  have c0 := rcell b o s w hb c hs0 hc
  have hz : b < w.heap.size := World.block_lt_of_cell? _ _ c0
  have e1 := Lib.hid (length_data s)
  have hle := digLen_le s.data.toList
  have hg := getElem_data s 0 hs0
  rw [hc] at hg
  have hlp : 0 < s.data.toList.length := by rw [e1.out]; exact hs0
  have hstart : 1 + digLen (s.data.toList.drop 1) = digLen s.data.toList := by
    have := digLen_step s.data.toList 0 hlp (by rw [hg]; exact h3)
    simpa using this.symm
  rw [e1.out] at hle
  unfold numberOf
  obtain ⟨N, hN⟩ : ∃ N, digLen s.data.toList = N := ⟨_, rfl⟩
  have hat : ∀ i (h : i < N), ∃ d : UInt8, ∃ hi : i < s.size, s[i] = d ∧ 48 ≤ d.toNat ∧ d.toNat ≤ 57 ∧ ∀ v : Int, v = valOf (s.data.toList.take i) → 10 * v + ((d.toNat : Int) - 48) = valOf (s.data.toList.take (i + 1)) := fun i h => by
    have hi : i < s.size := by omega
    have hl : i < s.data.toList.length := by rw [e1.out]; exact hi
    have hd := (digitB_iff _).1 (dig_at s.data.toList i (by omega) hl)
    have hg := getElem_data s i hi
    rw [hg] at hd
    exact ⟨_, hi, rfl, hd.1, hd.2, fun v hv => num_val s.data.toList i hl v _ hv (by rw [hg])⟩
  have hsm : ∀ i, i ≤ N → N ≤ 15 → 0 ≤ valOf (s.data.toList.take i) ∧ valOf (s.data.toList.take i) < 1000000000000000 := fun i h1 h2 => valOf_small _ i (by omega) (by omega)
  rw [hN] at hle hstart ⊢
  have hcv := fun ob => conv_head b o cap s w hb N hle (w.alloc ob) ((Below.refl _ _).alloc (Nat.le_refl _) _)
  obtain ⟨t, ht⟩ : ∃ t, s.extract 0 N = t := ⟨_, rfl⟩
  rw [ht] at hcv
  obtain ⟨res, hr⟩ : ∃ res : Option (Int × Nat × Int), (if N ≤ 15 then some (3, N, valOf (s.data.toList.take N)) else none) = res := ⟨_, rfl⟩
  rw [hr]
  have HR := Lib.hid hr; clear hr
  have HN := Lib.hid hN; clear hN
  have HT := Lib.hid ht; clear ht hg
  have HST := Lib.hid hstart; clear hstart
  have HCC := Lib.hid hc; clear hc
  have HBY := Lib.hid hb; clear hb
  have HAT := Lib.hid hat; clear hat
  have HSM := Lib.hid hsm; clear hsm
  have HCV := Lib.hid hcv; clear hcv
  have H1 := Lib.hid h1; clear h1
  have H2 := Lib.hid h2; clear h2
  have H3 := Lib.hid h3; clear h3
  have h00 : (0 : Int) ≤ valOf (s.data.toList.take 0) := by simp [valOf]
  clear h00
  go_enter Tryd.func28, Tryd.ntmps28
  go_wp2_with (first | (go_at_call 38; refine (rsmall_any c _).mono ?_; rw [H1.out]; rintro e w' ⟨rfl, rfl⟩) | (go_at_call 39; refine (rgreat_any c _).mono ?_; rw [H2.out]; rintro e w' ⟨rfl, rfl⟩) | (go_at_call 44; refine (rdigit_any c _).mono ?_; rw [H3.out]; rintro e w' ⟨rfl, rfl⟩))
  all_goals
    go_loop [5] (fun v => ∃ k : Nat, 1 ≤ k ∧ k ≤ s.size ∧ v = .int .i64 k ∧ Hid (k + digLen (s.data.toList.drop k) = N)) (fun v => s.size - (intOf v).toNat)
    case atStart => exact ⟨1, Nat.le_refl _, hs0, rfl, HST⟩
    case round =>
      obtain ⟨k, hk1, hk, rfl, he⟩ := hrel
      by_cases hlt : k < s.size
      · have hl : k < s.data.toList.length := by rw [e1.out]; exact hlt
        have hg := getElem_data s k hlt
        have hck := HBY.out k hlt
        obtain ⟨d, hd⟩ : ∃ d, s[k] = d := ⟨_, rfl⟩
        rw [hd] at hg hck
        cases hi : digitB d with
        | true =>
          have T := Lib.hid (digLen_step s.data.toList k hl (by rw [hg]; exact hi))
          have Hi := Lib.hid hi; clear hi hg
          go_wp2_with (go_at_call 44; refine (rdigit_any d _).mono ?_; rw [Hi.out]; rintro e w' ⟨rfl, rfl⟩)
          go_round
          case rel => exact ⟨k + 1, by omega, by omega, by go_num, by rw [← T.out]; exact he.out⟩
          case measure => simp [intOf]; omega
        | false =>
          have T := Lib.hid (digLen_stop s.data.toList k hl (by rw [hg]; exact hi))
          have Hi := Lib.hid hi; clear hi hg
          have hkN : k = N := T.out.symm.trans he.out
          subst hkN
          clear he T HST
          by_cases h15 : 15 < k
          · go_wp2_with (first | (go_at_call 44; refine (rdigit_any d _).mono ?_; rw [Hi.out]; rintro e w' ⟨rfl, rfl⟩))
            exact bodyPost_ret (v := .tuple #[tokV 0 0 ⟨#[]⟩ 0, .int .i64 0]) (by simp [results, Tryd.results28, go_sem, tokV]) rfl (by rw [← HR.out, if_neg (by omega)]; exact ⟨rfl, (Below.refl _ _).alloc (Nat.le_refl _) _⟩)
          · go_wp2_with (first | (go_at_call 44; refine (rdigit_any d _).mono ?_; rw [Hi.out]; rintro e w' ⟨rfl, rfl⟩))
            go_loop [8, 9] (fun vv vi => ∃ (i : Nat) (v : Int), i ≤ k ∧ vi = .int .i64 i ∧ vv = .int .i64 v ∧ 0 ≤ v ∧ v < 1000000000000000 ∧ Hid (v = valOf (s.data.toList.take i))) (fun _ vi => k - (intOf vi).toNat)
            case atStart => exact ⟨0, 0, Nat.zero_le _, rfl, rfl, by omega, by omega, Lib.hid (by simp [valOf])⟩
            case round =>
              obtain ⟨i, v, hi, rfl, rfl, hv0, hv1, hv⟩ := hrel
              by_cases hlt2 : i < k
              · obtain ⟨d2, his, hd2, hd3, hd4, hst⟩ := HAT.out i hlt2
                have hci := HBY.out i his
                rw [hd2] at hci
                have HS := Lib.hid (hst v hv.out); clear hst
                have HD2 := Lib.hid hd2; clear hd2
                have hd5 : 48 ≤ (d2.toNat : Int) := by omega
                have hd6 : (d2.toNat : Int) ≤ 57 := by omega
                go_wp2
                go_round
                case rel => exact ⟨i + 1, _, by omega, by go_num, rfl, by omega, by rw [HS.out]; exact (HSM.out (i + 1) (by omega) (by omega)).2, Lib.hid HS.out⟩
                case measure => simp [intOf]; omega
              · obtain rfl : i = k := by omega
                have hcv := HCV.out
                go_wp2
                exact bodyPost_ret (v := .tuple #[tokV 3 0 t v, .int .i64 (i : Nat)]) (by simp [results, Tryd.results28, go_sem, tokV]) rfl (by rw [← HR.out, if_pos (by omega)]; exact ⟨by rw [HT.out, ← hv.out], (Below.refl _ _).alloc (Nat.le_refl _) _⟩)
      · obtain rfl : k = s.size := by omega
        have T := digLen_end s.data.toList
        rw [e1.out] at T
        have hkN : s.size = N := T.symm.trans he.out
        subst hkN
        clear he T HST
        by_cases h15 : 15 < s.size
        · go_wp2
          exact bodyPost_ret (v := .tuple #[tokV 0 0 ⟨#[]⟩ 0, .int .i64 0]) (by simp [results, Tryd.results28, go_sem, tokV]) rfl (by rw [← HR.out, if_neg (by omega)]; exact ⟨rfl, (Below.refl _ _).alloc (Nat.le_refl _) _⟩)
        · go_wp2
          go_loop [8, 9] (fun vv vi => ∃ (i : Nat) (v : Int), i ≤ s.size ∧ vi = .int .i64 i ∧ vv = .int .i64 v ∧ 0 ≤ v ∧ v < 1000000000000000 ∧ Hid (v = valOf (s.data.toList.take i))) (fun _ vi => s.size - (intOf vi).toNat)
          case atStart => exact ⟨0, 0, Nat.zero_le _, rfl, rfl, by omega, by omega, Lib.hid (by simp [valOf])⟩
          case round =>
            obtain ⟨i, v, hi, rfl, rfl, hv0, hv1, hv⟩ := hrel
            by_cases hlt2 : i < s.size
            · obtain ⟨d2, his, hd2, hd3, hd4, hst⟩ := HAT.out i hlt2
              have hci := HBY.out i his
              rw [hd2] at hci
              have HS := Lib.hid (hst v hv.out); clear hst
              have HD2 := Lib.hid hd2; clear hd2
              have hd5 : 48 ≤ (d2.toNat : Int) := by omega
              have hd6 : (d2.toNat : Int) ≤ 57 := by omega
              go_wp2
              go_round
              case rel => exact ⟨i + 1, _, by omega, by go_num, rfl, by omega, by rw [HS.out]; exact (HSM.out (i + 1) (by omega) (by omega)).2, Lib.hid HS.out⟩
              case measure => simp [intOf]; omega
            · obtain rfl : i = s.size := by omega
              have hcv := HCV.out
              go_wp2
              exact bodyPost_ret (v := .tuple #[tokV 3 0 t v, .int .i64 (s.size : Nat)]) (by simp [results, Tryd.results28, go_sem, tokV]) rfl (by rw [← HR.out, if_pos (by omega)]; exact ⟨by rw [HT.out, ← hv.out], (Below.refl _ _).alloc (Nat.le_refl _) _⟩)
end Go.Proofs.YtnlpilceooncmaaDoor
