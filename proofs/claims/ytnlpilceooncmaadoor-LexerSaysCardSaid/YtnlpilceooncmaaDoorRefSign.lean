/- The reference's operators and marks at the head of a slice of bytes. -/
import Derived.Test.YtnlpilceooncmaaDoorRefNum
namespace Go.Proofs.YtnlpilceooncmaaDoor
open Go.RowKit

def encL (c : UInt8) : List UInt8 := (Utf8.encode (c.toNat : Int)).toList
theorem enc_fin : ∀ n : Fin 256, (if n.val < 128 then (Utf8.encode (n.val : Int)).data.toList = [UInt8.ofNat n.val] else 128 ≤ ((Utf8.encode (n.val : Int)).data.toList.headD 0).toNat) := by decide +kernel
theorem enc_low (c : UInt8) (h : c.toNat < 128) : encL c = [c] := by
  have := enc_fin ⟨c.toNat, by have := c.toNat_lt; omega⟩
  simp only at this
  rw [if_pos h] at this
  unfold encL
  rw [Lib.toList_data, this, UInt8.ofNat_toNat]
theorem enc_high (c : UInt8) (h : ¬ c.toNat < 128) : 128 ≤ ((encL c).headD 0).toNat := by
  have := enc_fin ⟨c.toNat, by have := c.toNat_lt; omega⟩
  simp only at this
  rw [if_neg h] at this
  unfold encL
  rw [Lib.toList_data]; exact this
theorem enc_eq (c : UInt8) (u : List UInt8) (hu : ∀ x ∈ u, x.toNat < 128) : encL c = u ↔ [c] = u := by
  by_cases h : c.toNat < 128
  · rw [enc_low c h]
  · constructor
    · intro e
      have h1 := enc_high c h
      rw [e] at h1
      cases u with
      | nil => simp at h1
      | cons x y => have := hu x (by simp); simp at h1; omega
    · intro e
      rw [← e] at hu
      exact absurd (hu c (by simp)) h
theorem opsR_ascii : ∀ u ∈ opsR, ∀ x ∈ u, x.toNat < 128 := by decide
theorem marksR_ascii : ∀ x ∈ marksR, x.toNat < 128 := by decide
theorem enc_bytes (c : UInt8) (h : c.toNat < 128) : Utf8.encode (c.toNat : Int) = ⟨#[c]⟩ := by
  have := enc_low c h
  unfold encL at this
  rw [Lib.toList_data] at this
  apply ByteArray.ext
  apply Array.toList_inj.1
  exact this
theorem head_bytes (s : ByteArray) (c : UInt8) (h : 0 < s.size) (hc : s[0] = c) : s.extract 0 1 = ⟨#[c]⟩ := by
  apply ByteArray.ext
  apply Array.toList_inj.1
  rw [Lib.extract_data]
  have hg := getElem_data s 0 h
  cases hl : s.data.toList with
  | nil => have := length_data s; rw [hl] at this; simp at this; omega
  | cons a r =>
    have : a = c := by rw [← hc, ← hg]; simp [hl]
    simp [this]

theorem same_text {a b : ByteArray} (h : (a.toList == b.toList) = true) : a = b := by
  rw [Lib.toList_data, Lib.toList_data, beq_iff_eq] at h
  exact ByteArray.ext (Array.toList_inj.1 h)
theorem hit_two (s t u : ByteArray) (c : UInt8) (r : List UInt8) (res : Option (Int × Nat × Int)) (hR : signFrom (c :: r) (min 2 (c :: r).length) = res) (hT : s.extract 0 2 = t) (h2 : t.size = 2) (hTL : t.data.toList = two (c :: r))
    (h3 : two (c :: r) ∉ [[45, 62], [61, 62], [58, 58]]) (i : Nat) (hi : i < opsR.length) (hno : ∀ j (h : j < opsR.length), j < i → two (c :: r) ≠ opsR[j] ∧ [c] ≠ opsR[j]) (hu : u.data.toList = opsR[i]) (q : (t.toList == u.toList) = true) :
    res = some (5, u.size, 0) ∧ s.extract 0 u.size = u := by
  obtain rfl := same_text q
  have := opsR_hit c r i hi h3 hno (.inl (hTL.symm.trans hu))
  rw [← hu, length_data] at this
  exact ⟨hR.symm.trans this, by rw [h2, hT]⟩
theorem hit_one (s u : ByteArray) (c : UInt8) (r : List UInt8) (res : Option (Int × Nat × Int)) (hR : signFrom (c :: r) (min 2 (c :: r).length) = res) (h1 : s.extract 0 1 = ⟨#[c]⟩)
    (h3 : two (c :: r) ∉ [[45, 62], [61, 62], [58, 58]]) (i : Nat) (hi : i < opsR.length) (hno : ∀ j (h : j < opsR.length), j < i → two (c :: r) ≠ opsR[j] ∧ [c] ≠ opsR[j]) (hu : u.data.toList = opsR[i]) (q : ((Utf8.encode (c.toNat : Int)).toList == u.toList) = true) :
    res = some (5, u.size, 0) ∧ s.extract 0 u.size = u := by
  have e : [c] = u.data.toList := (enc_eq c u.data.toList (by rw [hu]; exact opsR_ascii _ (List.getElem_mem _))).1 (by unfold encL; rw [← Lib.toList_data]; simpa using q)
  have hz : u.size = 1 := by rw [← length_data, ← e]; rfl
  have hue : u = ⟨#[c]⟩ := by apply ByteArray.ext; apply Array.toList_inj.1; exact e.symm
  have := opsR_hit c r i hi h3 hno (.inr (e.trans hu))
  rw [← hu, length_data] at this
  exact ⟨hR.symm.trans this, by rw [hz, h1, hue]⟩

set_option maxHeartbeats 4000000 in
set_option maxRecDepth 100000 in
/-- From the row of operators on. -/
theorem rword_sign (b o cap : Nat) (s : ByteArray) (w : World) (hb : Lib.Bytes w b o s) (hs : s.size ≤ 20000) (hs0 : 0 < s.size) (hcap : s.size ≤ cap) (c : UInt8) (hc : s[0] = c)
    (h1 : smallB c = false) (h2 : greatB c = false) (h3 : digitB c = false) (h4 : ((c.toNat : Int) == 39) = false) (hs1 : 1 < s.size) :
    Calls Tryd.prog 28 #[.slice (some ⟨b, o, none⟩) s.size cap] w (RWordPost s w (signFrom s.data.toList (min 2 s.data.toList.length))) := by
  have c0 := rcell b o s w hb c hs0 hc
  have hz : b < w.heap.size := World.block_lt_of_cell? _ _ c0
  have hl : ∃ r, s.data.toList = c :: r := by
    have hg := getElem_data s 0 hs0
    cases hl : s.data.toList with
    | nil => have := length_data s; rw [hl] at this; simp at this; omega
    | cons a r => exact ⟨r, by rw [← hc, ← hg]; simp [hl]⟩
  obtain ⟨r, hl⟩ := hl
  have hcv := fun ob => conv_head b o cap s w hb 2 (by omega) (w.alloc ob) ((Below.refl _ _).alloc (Nat.le_refl _) _)
  obtain ⟨t, ht⟩ : ∃ t, s.extract 0 2 = t := ⟨_, rfl⟩
  have htl : t.data.toList = two (c :: r) := by
    rw [← ht, Lib.extract_data, hl]
    unfold two
    rw [if_pos (by rw [← hl, length_data]; exact hs1)]
    rfl
  rw [ht] at hcv
  have hh1 := head_bytes s c hs0 hc
  obtain ⟨res, hr⟩ : ∃ res, signFrom s.data.toList (min 2 s.data.toList.length) = res := ⟨_, rfl⟩
  rw [hr]
  rw [hl] at hr
  have HR := Lib.hid hr; clear hr
  have HT2 := Lib.hid (show t.size = 2 by rw [← ht, ByteArray.size_extract]; omega)
  have HT := Lib.hid ht; clear ht
  have HLEN := Lib.hid (show 2 ≤ (c :: r).length by rw [← hl, length_data]; omega)
  have HTK := Lib.hid (show t.data.toList = (c :: r).take 2 by rw [htl]; unfold two; rw [if_pos (by have := HLEN.out; omega)])
  have HTL := Lib.hid htl; clear htl
  have HH1 := Lib.hid hh1; clear hh1 hl
  have HCC := Lib.hid hc; clear hc
  have HBY := Lib.hid hb; clear hb
  have H1 := Lib.hid h1; clear h1
  have H2 := Lib.hid h2; clear h2
  have H3 := Lib.hid h3; clear h3
  have HO := Lib.hid (fun W => operators_new W)
  cases m1 : (t.toList == [45, 62]) with
  | true =>
    have hR2 := HR.out.symm.trans (sign_two_mark (c :: r) HLEN.out (HTK.out ▸ (by rw [← Lib.toList_data]; simp at m1; simp [m1])))
    have HF := Lib.hid hR2; clear hR2
    go_enter Tryd.func28, Tryd.ntmps28
    go_wp2_with (first | (go_at_call 38; refine (rsmall_any c _).mono ?_; rw [H1.out]; rintro e w' ⟨rfl, rfl⟩) | (go_at_call 39; refine (rgreat_any c _).mono ?_; rw [H2.out]; rintro e w' ⟨rfl, rfl⟩) | (go_at_call 44; refine (rdigit_any c _).mono ?_; rw [H3.out]; rintro e w' ⟨rfl, rfl⟩))
    exact bodyPost_ret (v := .tuple #[tokV 6 0 t 0, .int .i64 2]) (by simp [results, Tryd.results28, go_sem, tokV]) rfl (by rw [HF.out]; exact ⟨by rw [HT.out]; rfl, (Below.refl _ _).alloc (Nat.le_refl _) _⟩)
  | false =>
    cases m2 : (t.toList == [61, 62]) with
    | true =>
      have hR2 := HR.out.symm.trans (sign_two_mark (c :: r) HLEN.out (HTK.out ▸ (by rw [← Lib.toList_data]; simp at m2; simp [m2])))
      have HF := Lib.hid hR2; clear hR2
      go_enter Tryd.func28, Tryd.ntmps28
      go_wp2_with (first | (go_at_call 38; refine (rsmall_any c _).mono ?_; rw [H1.out]; rintro e w' ⟨rfl, rfl⟩) | (go_at_call 39; refine (rgreat_any c _).mono ?_; rw [H2.out]; rintro e w' ⟨rfl, rfl⟩) | (go_at_call 44; refine (rdigit_any c _).mono ?_; rw [H3.out]; rintro e w' ⟨rfl, rfl⟩))
      exact bodyPost_ret (v := .tuple #[tokV 6 0 t 0, .int .i64 2]) (by simp [results, Tryd.results28, go_sem, tokV]) rfl (by rw [HF.out]; exact ⟨by rw [HT.out]; rfl, (Below.refl _ _).alloc (Nat.le_refl _) _⟩)
    | false =>
      cases m3 : (t.toList == [58, 58]) with
      | true =>
        have hR2 := HR.out.symm.trans (sign_two_mark (c :: r) HLEN.out (HTK.out ▸ (by rw [← Lib.toList_data]; simp at m3; simp [m3])))
        have HF := Lib.hid hR2; clear hR2
        go_enter Tryd.func28, Tryd.ntmps28
        go_wp2_with (first | (go_at_call 38; refine (rsmall_any c _).mono ?_; rw [H1.out]; rintro e w' ⟨rfl, rfl⟩) | (go_at_call 39; refine (rgreat_any c _).mono ?_; rw [H2.out]; rintro e w' ⟨rfl, rfl⟩) | (go_at_call 44; refine (rdigit_any c _).mono ?_; rw [H3.out]; rintro e w' ⟨rfl, rfl⟩))
        exact bodyPost_ret (v := .tuple #[tokV 6 0 t 0, .int .i64 2]) (by simp [results, Tryd.results28, go_sem, tokV]) rfl (by rw [HF.out]; exact ⟨by rw [HT.out]; rfl, (Below.refl _ _).alloc (Nat.le_refl _) _⟩)
      | false =>
        have hn3 : two (c :: r) ∉ [[45, 62], [61, 62], [58, 58]] := by
          rw [← HTL.out, ← Lib.toList_data]
          simp only [List.mem_cons, List.not_mem_nil, or_false, not_or]
          exact ⟨by simpa using m1, by simpa using m2, by simpa using m3⟩
        have HN3 := Lib.hid hn3; clear hn3
        go_enter Tryd.func28, Tryd.ntmps28
        go_wp2_with (first | (go_at_call 38; refine (rsmall_any c _).mono ?_; rw [H1.out]; rintro e w' ⟨rfl, rfl⟩) | (go_at_call 39; refine (rgreat_any c _).mono ?_; rw [H2.out]; rintro e w' ⟨rfl, rfl⟩) | (go_at_call 44; refine (rdigit_any c _).mono ?_; rw [H3.out]; rintro e w' ⟨rfl, rfl⟩) | (go_at_call 41; refine (HO.out _).mono ?_; rintro e w1 ⟨rfl, hb1, hst1, hz1⟩; have HB1 := Lib.hid hb1; have HS1 := Lib.hid hst1; clear hb1 hst1))
        have hg1 : w1.heap.size ≥ w.heap.size + 2 := by simp at hz1; omega
        have hst : ∀ i (h : i < opsR.length), ∃ u : ByteArray, w1.cell? ⟨w.heap.size + 1, i, none⟩ = some (.string u) ∧ u.data.toList = opsR[i] := fun i h => by
          have := HS1.out i (by simpa using h)
          simp only [World.size_alloc, List.getElem_map] at this
          exact ⟨_, this, by simp [asStr]⟩
        have HST := Lib.hid hst; clear hst HS1
        have HBW := Lib.hid (((Below.refl w.heap.size w).alloc (Nat.le_refl _) _).trans (HB1.out.mono (by simp)))
        obtain ⟨hc1, hf1⟩ := bcell HB1.out
        simp only [World.size_alloc] at hc1 hf1
        clear HB1 HO
        go_loop [14] (fun vi => ∃ i : Nat, i ≤ 9 ∧ vi = .int .i64 i ∧ Hid (∀ j (h : j < opsR.length), j < i → two (c :: r) ≠ opsR[j] ∧ [c] ≠ opsR[j])) (fun vi => 9 - (intOf vi).toNat)
        case atStart => exact ⟨0, by omega, rfl, Lib.hid (fun j _ h => absurd h (by omega))⟩
        case round =>
          obtain ⟨i, hi, rfl, hno⟩ := hrel
          by_cases hlt : i < 9
          · obtain ⟨u, hcu, hu⟩ := HST.out i hlt
            have HU := Lib.hid hu; clear hu
            cases q1 : (t.toList == u.toList) with
            | true =>
              have HF := Lib.hid (hit_two s t u c r res HR.out HT.out HT2.out HTL.out HN3.out i hlt hno.out HU.out q1)
              have hcd : ∀ b o, b < w.heap.size + 1 → w1.drew.cell? ⟨b, o, none⟩ = (w.alloc (.cells #[.int .i64 0, .int .i64 0, .string ⟨#[]⟩, .int .i64 0] 40)).cell? ⟨b, o, none⟩ := fun b o h => hc1 b o h
              go_wp2
              go_region
              go_wp2
              exact bodyPost_ret (v := .tuple #[tokV 5 0 u 0, .int .i64 (u.size : Nat)]) (by simp [results, Tryd.results28, go_sem, tokV, hc1]) rfl (by rw [HF.out.1]; exact ⟨by rw [HF.out.2], below_four HBW.out.drew w.heap.size (Nat.le_refl _) _ _ _ _⟩)
            | false =>
              cases q2 : ((Utf8.encode (c.toNat : Int)).toList == u.toList) with
              | true =>
                have HF := Lib.hid (hit_one s u c r res HR.out HH1.out HN3.out i hlt hno.out HU.out q2)
                go_wp2
                go_region
                go_wp2
                exact bodyPost_ret (v := .tuple #[tokV 5 0 u 0, .int .i64 (u.size : Nat)]) (by simp [results, Tryd.results28, go_sem, tokV, hc1]) rfl (by rw [HF.out.1]; exact ⟨by rw [HF.out.2], below_four HBW.out.drew w.heap.size (Nat.le_refl _) _ _ _ _⟩)
              | false =>
                have hno' : Hid (∀ j (h : j < opsR.length), j < i + 1 → two (c :: r) ≠ opsR[j] ∧ [c] ≠ opsR[j]) := Lib.hid (by
                  intro j hj hji
                  by_cases e : j = i
                  · subst e
                    have hu2 : u.data.toList = opsR[j]'hj := HU.out
                    refine ⟨fun e => ?_, fun e => ?_⟩
                    · have e2 : t.toList = u.toList := by rw [Lib.toList_data, Lib.toList_data]; exact HTL.out.trans (e.trans hu2.symm)
                      rw [e2] at q1; simp at q1
                    · have e2 := (enc_eq c u.data.toList (by rw [hu2]; exact opsR_ascii _ (List.getElem_mem _))).2 (e.trans hu2.symm)
                      unfold encL at e2
                      rw [← Lib.toList_data] at e2
                      rw [e2] at q2; simp at q2
                  · exact hno.out j hj (by omega))
                go_wp2
                go_round
                case rel => exact ⟨i + 1, by omega, by go_num, hno'⟩
                case measure => simp [intOf]; omega
          · obtain rfl : i = 9 := by omega
            have hmiss := opsR_miss c r HN3.out (fun j hj => hno.out j hj hj)
            rw [HR.out] at hmiss
            have HM := Lib.hid hmiss; clear hmiss
            clear hno
            go_wp2
            obtain ⟨ms, hms⟩ : ∃ ms : ByteArray, (⟨#[40, 41, 123, 125, 44, 59, 61, 92, 124]⟩ : ByteArray) = ms := ⟨_, rfl⟩
            have hmz : ms.size = 9 := by rw [← hms]; rfl
            have hml : ms.data.toList = marksR := by rw [← hms]; rfl
            rw [hms]
            have HML := Lib.hid hml; clear hml hms
            have HMZ := Lib.hid hmz
            go_loop [16] (fun vi => ∃ i : Nat, i ≤ ms.size ∧ vi = .int .i64 i ∧ Hid (c ∉ ms.data.toList.take i)) (fun vi => ms.size - (intOf vi).toNat)
            case atStart => exact ⟨0, by omega, rfl, Lib.hid (by simp)⟩
            case round =>
              clear hmz
              obtain ⟨i, hi, rfl, hno⟩ := hrel
              have hms9 : ms.size ≤ 9 := by have := HMZ.out; omega
              by_cases hlt : i < ms.size
              · have hg := getElem_data ms i hlt
                have hli : i < ms.data.toList.length := by rw [length_data]; exact hlt
                obtain ⟨d, hd⟩ : ∃ d, ms[i] = d := ⟨_, rfl⟩
                rw [hd] at hg
                by_cases he : c = d
                · have hmem : c ∈ marksR := by rw [← HML.out, he, ← hg]; exact List.getElem_mem _
                  have HRR := Lib.hid (HM.out.trans (if_pos hmem))
                  have hen := enc_bytes c (marksR_ascii c hmem)
                  clear hmem hg
                  have HD := Lib.hid hd
                  subst he
                  have hq : ((c.toNat : Int) == (ms[i].toNat : Int)) = true := by rw [hd]; simp
                  go_wp2
                  exact bodyPost_ret (v := .tuple #[tokV 6 0 ⟨#[c]⟩ 0, .int .i64 1]) (by simp [results, Tryd.results28, go_sem, tokV, hc1]) rfl (by rw [HRR.out]; exact ⟨by rw [HH1.out]; rfl, below_four HBW.out w.heap.size (Nat.le_refl _) _ _ _ _⟩)
                · have hno' : Hid (c ∉ ms.data.toList.take (i + 1)) := Lib.hid (by
                    rw [List.take_succ_eq_append_getElem hli, List.mem_append, List.mem_singleton, hg]
                    rintro (h | h)
                    · exact hno.out h
                    · exact he h)
                  have hq : ((c.toNat : Int) == (ms[i].toNat : Int)) = false := by
                    rw [hd, beq_eq_false_iff_ne]; intro e; exact he (UInt8.toNat_inj.1 (by omega))
                  clear hg hd
                  go_wp2
                  go_round
                  case rel => exact ⟨i + 1, by omega, by go_num, hno'⟩
                  case measure => simp [intOf]; omega
              · obtain rfl : i = ms.size := by omega
                have hnm : c ∉ marksR := by
                  have := hno.out
                  rw [← length_data, List.take_length, HML.out] at this
                  exact this
                have HRR := Lib.hid (HM.out.trans (if_neg hnm))
                clear hnm
                go_wp2
                exact bodyPost_ret (v := .tuple #[tokV 0 0 ⟨#[]⟩ 0, .int .i64 0]) (by simp [results, Tryd.results28, go_sem, tokV, hc1]) rfl (by rw [HRR.out]; exact ⟨rfl, below_four HBW.out w.heap.size (Nat.le_refl _) _ _ _ _⟩)
set_option maxHeartbeats 4000000 in
set_option maxRecDepth 100000 in
/-- From the row of operators on. -/
theorem rword_sign1 (b o cap : Nat) (s : ByteArray) (w : World) (hb : Lib.Bytes w b o s) (hs : s.size ≤ 20000) (hs0 : 0 < s.size) (hcap : s.size ≤ cap) (c : UInt8) (hc : s[0] = c)
    (h1 : smallB c = false) (h2 : greatB c = false) (h3 : digitB c = false) (h4 : ((c.toNat : Int) == 39) = false) (hs1 : s.size = 1) :
    Calls Tryd.prog 28 #[.slice (some ⟨b, o, none⟩) s.size cap] w (RWordPost s w (signFrom s.data.toList (min 2 s.data.toList.length))) := by
  have c0 := rcell b o s w hb c hs0 hc
  have hz : b < w.heap.size := World.block_lt_of_cell? _ _ c0
  have hl : ∃ r, s.data.toList = c :: r := by
    have hg := getElem_data s 0 hs0
    cases hl : s.data.toList with
    | nil => have := length_data s; rw [hl] at this; simp at this; omega
    | cons a r => exact ⟨r, by rw [← hc, ← hg]; simp [hl]⟩
  obtain ⟨r, hl⟩ := hl
  have hrn : r = [] := by
    have := length_data s
    rw [hl, hs1] at this
    exact List.length_eq_zero_iff.1 (by simpa using this)
  have htl : (⟨#[]⟩ : ByteArray).data.toList = two (c :: r) := by rw [hrn]; rfl
  have hh1 := head_bytes s c hs0 hc
  obtain ⟨res, hr⟩ : ∃ res, signFrom s.data.toList (min 2 s.data.toList.length) = res := ⟨_, rfl⟩
  rw [hr]
  rw [hl] at hr
  have HR := Lib.hid hr; clear hr
  have HTL := Lib.hid htl; clear htl
  have HH1 := Lib.hid hh1; clear hh1 hl
  have HCC := Lib.hid hc; clear hc
  have HBY := Lib.hid hb; clear hb
  have H1 := Lib.hid h1; clear h1
  have H2 := Lib.hid h2; clear h2
  have H3 := Lib.hid h3; clear h3
  have HO := Lib.hid (fun W => operators_new W)
  have hn3 : two (c :: r) ∉ [[45, 62], [61, 62], [58, 58]] := by rw [hrn]; simp [two]
  have HN3 := Lib.hid hn3; clear hn3 hrn
  rw [hs1]
  have hz1s := hs1
  clear hs1
  go_enter Tryd.func28, Tryd.ntmps28
  go_wp2_with (first | (go_at_call 38; refine (rsmall_any c _).mono ?_; rw [H1.out]; rintro e w' ⟨rfl, rfl⟩) | (go_at_call 39; refine (rgreat_any c _).mono ?_; rw [H2.out]; rintro e w' ⟨rfl, rfl⟩) | (go_at_call 44; refine (rdigit_any c _).mono ?_; rw [H3.out]; rintro e w' ⟨rfl, rfl⟩) | (go_at_call 41; refine (HO.out _).mono ?_; rintro e w1 ⟨rfl, hb1, hst1, hz1⟩; have HB1 := Lib.hid hb1; have HS1 := Lib.hid hst1; clear hb1 hst1))
  have hg1 : w1.heap.size ≥ w.heap.size + 2 := by simp at hz1; omega
  have hst : ∀ i (h : i < opsR.length), ∃ u : ByteArray, w1.cell? ⟨w.heap.size + 1, i, none⟩ = some (.string u) ∧ u.data.toList = opsR[i] := fun i h => by
    have := HS1.out i (by simpa using h)
    simp only [World.size_alloc, List.getElem_map] at this
    exact ⟨_, this, by simp [asStr]⟩
  have HST := Lib.hid hst; clear hst HS1
  have HBW := Lib.hid (((Below.refl w.heap.size w).alloc (Nat.le_refl _) _).trans (HB1.out.mono (by simp)))
  obtain ⟨hc1, hf1⟩ := bcell HB1.out
  simp only [World.size_alloc] at hc1 hf1
  clear HB1 HO
  obtain ⟨t, ht⟩ : ∃ t : ByteArray, (⟨#[]⟩ : ByteArray) = t := ⟨_, rfl⟩
  rw [ht]
  have HTL : Hid (t.data.toList = two (c :: r)) := Lib.hid (by rw [← ht]; exact HTL.out)
  have HT0 := Lib.hid (show t.data.toList = [] by rw [← ht])
  clear ht
  go_loop [14] (fun vi => ∃ i : Nat, i ≤ 9 ∧ vi = .int .i64 i ∧ Hid (∀ j (h : j < opsR.length), j < i → two (c :: r) ≠ opsR[j] ∧ [c] ≠ opsR[j])) (fun vi => 9 - (intOf vi).toNat)
  case atStart => exact ⟨0, by omega, rfl, Lib.hid (fun j _ h => absurd h (by omega))⟩
  case round =>
    obtain ⟨i, hi, rfl, hno⟩ := hrel
    by_cases hlt : i < 9
    · obtain ⟨u, hcu, hu⟩ := HST.out i hlt
      have HU := Lib.hid hu; clear hu
      cases q1 : (t.toList == u.toList) with
      | true =>
        exfalso
        have e := same_text q1
        subst e
        have hu2 := HU.out
        rw [HT0.out] at hu2
        have : ∀ u ∈ opsR, u ≠ [] := by decide
        exact this _ (List.getElem_mem _) hu2.symm
      | false =>
        cases q2 : ((Utf8.encode (c.toNat : Int)).toList == u.toList) with
        | true =>
          have HF := Lib.hid (hit_one s u c r res HR.out HH1.out HN3.out i hlt hno.out HU.out q2)
          go_wp2
          go_region
          go_wp2
          exact bodyPost_ret (v := .tuple #[tokV 5 0 u 0, .int .i64 (u.size : Nat)]) (by simp [results, Tryd.results28, go_sem, tokV, hc1]) rfl (by rw [HF.out.1]; exact ⟨by rw [HF.out.2], below_four HBW.out.drew w.heap.size (Nat.le_refl _) _ _ _ _⟩)
        | false =>
          have hno' : Hid (∀ j (h : j < opsR.length), j < i + 1 → two (c :: r) ≠ opsR[j] ∧ [c] ≠ opsR[j]) := Lib.hid (by
            intro j hj hji
            by_cases e : j = i
            · subst e
              have hu2 : u.data.toList = opsR[j]'hj := HU.out
              refine ⟨fun e => ?_, fun e => ?_⟩
              · have e2 : t.toList = u.toList := by rw [Lib.toList_data, Lib.toList_data]; exact HTL.out.trans (e.trans hu2.symm)
                rw [e2] at q1; simp at q1
              · have e2 := (enc_eq c u.data.toList (by rw [hu2]; exact opsR_ascii _ (List.getElem_mem _))).2 (e.trans hu2.symm)
                unfold encL at e2
                rw [← Lib.toList_data] at e2
                rw [e2] at q2; simp at q2
            · exact hno.out j hj (by omega))
          go_wp2
          go_round
          case rel => exact ⟨i + 1, by omega, by go_num, hno'⟩
          case measure => simp [intOf]; omega
    · obtain rfl : i = 9 := by omega
      have hmiss := opsR_miss c r HN3.out (fun j hj => hno.out j hj hj)
      rw [HR.out] at hmiss
      have HM := Lib.hid hmiss; clear hmiss
      clear hno
      go_wp2
      obtain ⟨ms, hms⟩ : ∃ ms : ByteArray, (⟨#[40, 41, 123, 125, 44, 59, 61, 92, 124]⟩ : ByteArray) = ms := ⟨_, rfl⟩
      have hmz : ms.size = 9 := by rw [← hms]; rfl
      have hml : ms.data.toList = marksR := by rw [← hms]; rfl
      rw [hms]
      have HML := Lib.hid hml; clear hml hms
      have HMZ := Lib.hid hmz
      go_loop [16] (fun vi => ∃ i : Nat, i ≤ ms.size ∧ vi = .int .i64 i ∧ Hid (c ∉ ms.data.toList.take i)) (fun vi => ms.size - (intOf vi).toNat)
      case atStart => exact ⟨0, by omega, rfl, Lib.hid (by simp)⟩
      case round =>
        clear hmz
        obtain ⟨i, hi, rfl, hno⟩ := hrel
        have hms9 : ms.size ≤ 9 := by have := HMZ.out; omega
        by_cases hlt : i < ms.size
        · have hg := getElem_data ms i hlt
          have hli : i < ms.data.toList.length := by rw [length_data]; exact hlt
          obtain ⟨d, hd⟩ : ∃ d, ms[i] = d := ⟨_, rfl⟩
          rw [hd] at hg
          by_cases he : c = d
          · have hmem : c ∈ marksR := by rw [← HML.out, he, ← hg]; exact List.getElem_mem _
            have HRR := Lib.hid (HM.out.trans (if_pos hmem))
            have hen := enc_bytes c (marksR_ascii c hmem)
            clear hmem hg
            have HD := Lib.hid hd
            subst he
            have hq : ((c.toNat : Int) == (ms[i].toNat : Int)) = true := by rw [hd]; simp
            go_wp2
            exact bodyPost_ret (v := .tuple #[tokV 6 0 ⟨#[c]⟩ 0, .int .i64 1]) (by simp [results, Tryd.results28, go_sem, tokV, hc1]) rfl (by rw [HRR.out]; exact ⟨by rw [HH1.out]; rfl, below_four HBW.out w.heap.size (Nat.le_refl _) _ _ _ _⟩)
          · have hno' : Hid (c ∉ ms.data.toList.take (i + 1)) := Lib.hid (by
              rw [List.take_succ_eq_append_getElem hli, List.mem_append, List.mem_singleton, hg]
              rintro (h | h)
              · exact hno.out h
              · exact he h)
            have hq : ((c.toNat : Int) == (ms[i].toNat : Int)) = false := by
              rw [hd, beq_eq_false_iff_ne]; intro e; exact he (UInt8.toNat_inj.1 (by omega))
            clear hg hd
            go_wp2
            go_round
            case rel => exact ⟨i + 1, by omega, by go_num, hno'⟩
            case measure => simp [intOf]; omega
        · obtain rfl : i = ms.size := by omega
          have hnm : c ∉ marksR := by
            have := hno.out
            rw [← length_data, List.take_length, HML.out] at this
            exact this
          have HRR := Lib.hid (HM.out.trans (if_neg hnm))
          clear hnm
          go_wp2
          exact bodyPost_ret (v := .tuple #[tokV 0 0 ⟨#[]⟩ 0, .int .i64 0]) (by simp [results, Tryd.results28, go_sem, tokV, hc1]) rfl (by rw [HRR.out]; exact ⟨rfl, below_four HBW.out w.heap.size (Nat.le_refl _) _ _ _ _⟩)
end Go.Proofs.YtnlpilceooncmaaDoor
