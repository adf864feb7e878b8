/- The reference's words of a text. -/
import Derived.Test.YtnlpilceooncmaaDoorRefSign
import Derived.Laws.AppendOwn
namespace Go.Proofs.YtnlpilceooncmaaDoor
open Go.RowKit
attribute [local go_sem] Oper.semAt_some

theorem bytes_from (b o : Nat) (s : ByteArray) (w : World) (hb : Lib.Bytes w b o s) (i : Nat) : Lib.Bytes w b (o + i) (s.extract i s.size) := fun j hj => by
  rw [ByteArray.size_extract] at hj
  have h := hb (i + j) (by omega)
  rw [Nat.add_assoc, h]
  have : (s.extract i s.size)[j] = s[i + j] := by rw [ByteArray.getElem_extract]
  rw [this]

/-- **The reference's 'word': what begins at the head.** -/
theorem rword_any (b o cap : Nat) (s : ByteArray) (w : World) (hb : Lib.Bytes w b o s) (hs : s.size ≤ 20000) (hs0 : 0 < s.size) (hcap : s.size ≤ cap) :
    Calls Tryd.prog 28 #[.slice (some ⟨b, o, none⟩) s.size cap] w (RWordPost s w (wordOf s.data.toList)) := by
  obtain ⟨c, hc⟩ : ∃ c, s[0] = c := ⟨_, rfl⟩
  have hh : s.data.toList.headD 0 = c := by
    have hg := getElem_data s 0 hs0
    cases hl : s.data.toList with
    | nil => have := length_data s; rw [hl] at this; simp at this; omega
    | cons a r => rw [← hc, ← hg]; simp [hl]
  unfold wordOf
  rw [hh]
  cases hbg : beginB c with
  | true => rw [if_pos rfl]; exact rword_name b o cap s w hb hs hs0 hcap c hc hbg
  | false =>
    rw [if_neg (by simp)]
    have hsg := beginB_eq c
    rw [hbg] at hsg
    have h12 : smallB c = false ∧ greatB c = false := by simpa using hsg.symm
    cases hdg : digitB c with
    | true => rw [if_pos rfl]; exact rword_number b o cap s w hb hs hs0 hcap c hc h12.1 h12.2 hdg
    | false =>
      rw [if_neg (by simp)]
      by_cases hq : c.toNat = 39
      · rw [if_pos hq]
        exact rword_letter b o cap s w hb hs hs0 hcap c hc h12.1 h12.2 hdg (by rw [beq_iff_eq]; omega)
      · rw [if_neg hq]
        have hq1 : ((c.toNat : Int) == 39) = false := by rw [beq_eq_false_iff_ne]; omega
        by_cases h1 : s.size = 1
        · exact rword_sign1 b o cap s w hb hs hs0 hcap c hc h12.1 h12.2 hdg hq1 h1
        · exact rword_sign b o cap s w hb hs hs0 hcap c hc h12.1 h12.2 hdg hq1 (by omega)

theorem rem_start (l : List UInt8) (p : Nat) (h : p < l.length) (h1 : p + 1 < l.length) (hc : l[p] = 45) (hd : l[p + 1] = 45) : skipTo l p = p + sk true (l.drop p) := by
  unfold skipTo
  rw [drop_cons l p h, drop_cons l (p + 1) h1, hc, hd]
  rfl
theorem rem_step (l : List UInt8) (p : Nat) (h : p < l.length) (hc : l[p] ≠ 10) : p + sk true (l.drop p) = p + 1 + sk true (l.drop (p + 1)) := by
  rw [drop_cons l p h, sk, if_neg (by simpa using hc)]; omega
theorem rem_stop (l : List UInt8) (p : Nat) (h : p < l.length) (hc : l[p] = 10) : p + sk true (l.drop p) = skipTo l p := by
  unfold skipTo
  rw [drop_cons l p h, hc]
  rfl
theorem rem_end (l : List UInt8) : l.length + sk true (l.drop l.length) = skipTo l l.length := by
  rw [skipTo_end l _ (Nat.le_refl _), List.drop_length]; rfl
theorem word_here (l : List UInt8) (p : Nat) (h : p < l.length) (hb : blankB l[p] = false) (hd : ∀ h1 : p + 1 < l.length, ¬ (l[p] = 45 ∧ l[p + 1] = 45)) : skipTo l p = p := by
  refine skipTo_word l p h hb ?_
  rw [drop_cons l p h]
  by_cases h1 : p + 1 < l.length
  · rw [drop_cons l (p + 1) h1]
    have := hd h1
    unfold Lib.hasPrefix
    simp [List.isPrefixOf]
    intro a b
    exact this ⟨a.symm, b.symm⟩
  · rw [List.drop_of_length_le (by omega)]
    unfold Lib.hasPrefix
    simp [List.isPrefixOf]

theorem rblank_cases (c : UInt8) (h : blankB c = true) : c = 32 ∨ c = 9 ∨ c = 10 ∨ c = 13 := by
  unfold blankB at h
  simp only [Bool.or_eq_true, beq_iff_eq] at h
  rcases h with ((h | h) | h) | h
  · exact .inl (UInt8.toNat_inj.1 h)
  · exact .inr (.inl (UInt8.toNat_inj.1 h))
  · exact .inr (.inr (.inl (UInt8.toNat_inj.1 h)))
  · exact .inr (.inr (.inr (UInt8.toNat_inj.1 h)))
theorem rblank_no (c : UInt8) (h : ¬ blankB c = true) : ((c.toNat : Int) == 32) = false ∧ ((c.toNat : Int) == 9) = false ∧ ((c.toNat : Int) == 10) = false ∧ ((c.toNat : Int) == 13) = false := by
  simp [blankB] at h
  refine ⟨?_, ?_, ?_, ?_⟩ <;> rw [beq_eq_false_iff_ne] <;> omega
theorem rne_false (c n : UInt8) (h : c ≠ n) : ((c.toNat : Int) == (n.toNat : Int)) = false := by
  rw [beq_eq_false_iff_ne]
  intro e
  exact h (UInt8.toNat_inj.1 (by omega))
/-- What the reference's 'Split' hands back. -/
def RSplitPost (s : ByteArray) (ts : List Tok) (er : Option Nat) (w : World) (e : Ending) (W : World) : Prop :=
  Below w.heap.size w W ∧ ((er = none ∧ ∃ v, e = .returned (.tuple #[v, faultV 0 false 0]) ∧ W.ownsRow (w.heap.size + 1) 40 4 v ts.length (rowOf s ts)) ∨
    (∃ p : Nat, er = some p ∧ e = .returned (.tuple #[.slice none 0 0, faultV 101 true p])))

theorem cell_four_two (w : World) (a b c d : Value) (t : TypeId) (o : Obj) : ∀ j u, [a, b, c, d][j]? = some u → ((w.alloc o).alloc (.cells #[a, b, c, d] t)).cell? ((⟨w.heap.size + 1, 0, none⟩ : Addr).add j) = some u := by
  have := cell_four_new (w.alloc o) a b c d t
  rwa [World.size_alloc] at this
theorem grownBy_set (W : World) (b o : Nat) (v : Value) : W.grownBy (W.setCell ⟨b, o, none⟩ v) (some b) :=
  ⟨rfl, rfl, rfl, (KeepsWalks.setCell W _ v).size, fun k _ hk => Below.heap_setCell _ _ _ k (fun e => hk (by rw [e]))⟩
theorem row_three {W : World} {base : Nat} {e : TypeId} {size : Nat} {v : Value} {n : Nat} {xs : List Value} (h : W.ownsRow base e size v n xs) {B : Nat} (hB : B < base) (a b c : Value) :
    (((W.setCell ⟨B, 0, none⟩ a).setCell ⟨B, 1, none⟩ b).setCell ⟨B, 2, none⟩ c).ownsRow base e size v n xs := by
  have hne : v.ownBlock ≠ some B := fun e => by have := (h.lt _ e).1; omega
  exact ((h.kept (grownBy_set _ _ _ _) (.inr hne)).kept (grownBy_set _ _ _ _) (.inr hne)).kept (grownBy_set _ _ _ _) (.inr hne)
/-- The result's block. -/
def FaultAt (W : World) (B : Nat) : Prop := W.heap[B]? = some (.cells #[.int .i64 0, .bool false, .int .i64 0] 30 (0, 0))

set_option maxHeartbeats 4000000 in
set_option maxRecDepth 100000 in
theorem rsplit_any (a : Option Addr) (cap : Nat) (s : ByteArray) (hs : s.size ≤ 20000) (hcap : s.size ≤ cap) (ts : List Tok) (er : Option Nat) (hr : Runs s.data.toList (skipTo s.data.toList 0) ts er) (w : World)
    (ha : s.size = 0 ∨ ∃ b o, a = some ⟨b, o, none⟩ ∧ Lib.Bytes w b o s) :
    Calls Tryd.prog 11 #[.slice a s.size cap] w (RSplitPost s ts er w) := by
  obtain ⟨i0, hi, hz0, hz1, hz2⟩ := info_parts Tryd.info40
  have e1 := Lib.hid (length_data s)
  have Hr := Lib.hid hr; clear hr
  have HA := Lib.hid ha; clear ha
  have hd20 : decide ((20000 : Int) < (s.size : Int)) = false := by simp; omega
  go_enter Tryd.func11, Tryd.ntmps11
  go_wp2
  have hB0 := (Below.refl w.heap.size w).alloc (Nat.le_refl _) (.cells #[.int .i64 0, .bool false, .int .i64 0] 30)
  have hF0 : FaultAt (w.alloc (.cells #[.int .i64 0, .bool false, .int .i64 0] 30)) w.heap.size := World.alloc_heap_new w _
  go_outline
  go_loopw [4, 5] (fun vo vi wr => ∃ (i : Nat) (q rest : List Tok), vi = .int .i64 i ∧ i ≤ s.size ∧ q.length ≤ i ∧ Hid (ts = q ++ rest) ∧ Hid (Runs s.data.toList (skipTo s.data.toList i) rest er) ∧
      Hid (wr.ownsRow (w.heap.size + 1) 40 4 vo q.length (rowOf s q)) ∧ Hid (FaultAt wr w.heap.size) ∧ Hid (Below w.heap.size w wr)) (fun _ vi _ => s.size - (intOf vi).toNat)
  case atStart => exact ⟨0, [], ts, rfl, Nat.zero_le _, Nat.zero_le _, rfl, Hr, Lib.hid (World.ownsRow_nil _ _ _ _), Lib.hid hF0, Lib.hid hB0⟩
  case round =>
    clear hB0 hF0
    obtain ⟨i, q, rest, rfl, hi1, hq, hts, hruns, hrow, hF, hB⟩ := hrel
    by_cases hlt : i < s.size
    · obtain ⟨b, o, rfl, hby⟩ : ∃ b o, a = some ⟨b, o, none⟩ ∧ Lib.Bytes w b o s := by
        rcases HA.out with h | h
        · omega
        · exact h
      have HBY := Lib.hid (bytes_later hby hB.out); clear hby
      have hl : i < s.data.toList.length := by rw [e1.out]; exact hlt
      have hg := getElem_data s i hlt
      have hck := HBY.out i hlt
      obtain ⟨c, hc⟩ : ∃ c, s[i] = c := ⟨_, rfl⟩
      rw [hc] at hg hck
      by_cases hbl : blankB c = true
      · have hsk := skipTo_blank s.data.toList i hl (by rw [hg]; exact hbl)
        have HR : Hid (Runs s.data.toList (skipTo s.data.toList (i + 1)) rest er) := Lib.hid (by rw [← hsk]; exact hruns.out)
        clear hsk hg
        rcases rblank_cases c hbl with h | h | h | h
        all_goals
          rw [h] at hck
          clear hbl
          simp only [UInt8.reduceToNat, Int.cast_ofNat_Int] at hck
          go_wp2
          go_roundw
          case rel => exact ⟨i + 1, q, rest, by go_num, by omega, by omega, hts, HR, hrow, hF, hB⟩
          case measure => simp [intOf]; omega
      · obtain ⟨q1, q2, q3, q4⟩ := rblank_no c hbl
        have hbl2 : blankB s.data.toList[i] = false := by rw [hg]; simpa using hbl
        by_cases hrem : c = 45 ∧ ∃ h1 : i + 1 < s.size, s[i + 1] = 45
        · obtain ⟨hc45, h1, hd45⟩ := hrem
          have hck1 := HBY.out (i + 1) h1
          have hg1 := getElem_data s (i + 1) h1
          have hst := rem_start s.data.toList i hl (by rw [e1.out]; exact h1) (by rw [hg]; exact hc45) (by rw [hg1]; exact hd45)
          have HST := Lib.hid hst; clear hst
          rw [hc45] at hck q1 q2 q3 q4
          rw [hd45] at hck1
          have HC := Lib.hid (hc.trans hc45)
          clear hg hg1 hc45 hd45 hbl hbl2 hc q1 q2 q3 q4
          simp only [UInt8.reduceToNat, Int.cast_ofNat_Int] at hck hck1
          go_wp2
          go_loop [5] (fun vi => ∃ i' : Nat, i ≤ i' ∧ i' ≤ s.size ∧ vi = .int .i64 i' ∧ Hid (i' + sk true (s.data.toList.drop i') = skipTo s.data.toList i)) (fun vi => s.size - (intOf vi).toNat)
          case atStart => exact ⟨i, Nat.le_refl _, by omega, rfl, Lib.hid HST.out.symm⟩
          case round =>
            obtain ⟨i', hi2, hi3, rfl, hsk⟩ := hrel
            by_cases hlt2 : i' < s.size
            · have hl2 : i' < s.data.toList.length := by rw [e1.out]; exact hlt2
              have hg2 := getElem_data s i' hlt2
              have hck2 := HBY.out i' hlt2
              obtain ⟨d, hd⟩ : ∃ d, s[i'] = d := ⟨_, rfl⟩
              rw [hd] at hg2 hck2
              have HD := Lib.hid hd; clear hd
              by_cases h10 : d = 10
              · have hstop := rem_stop s.data.toList i' hl2 (by rw [hg2]; exact h10)
                have HRN : Hid (Runs s.data.toList (skipTo s.data.toList i') rest er) := Lib.hid (by rw [← hstop, hsk.out]; exact hruns.out)
                have hne : i' ≠ i := fun e => by
                  subst e
                  have h45 := HC.out
                  have hd2 := HD.out
                  rw [h10] at hd2
                  rw [hd2] at h45; simp at h45
                rw [h10] at hck2
                clear hstop hg2 h10
                simp only [UInt8.reduceToNat, Int.cast_ofNat_Int] at hck2
                go_wp2
                go_roundw
                case rel => exact ⟨i', q, rest, rfl, by omega, by omega, hts, HRN, hrow, hF, hB⟩
                case measure => simp [intOf]; omega
              · have hstep := rem_step s.data.toList i' hl2 (by rw [hg2]; exact h10)
                have HSK : Hid (i' + 1 + sk true (s.data.toList.drop (i' + 1)) = skipTo s.data.toList i) := Lib.hid (by rw [← hstep]; exact hsk.out)
                have hq10 := rne_false d 10 h10
                clear hstep hg2 h10
                simp only [UInt8.reduceToNat, Int.cast_ofNat_Int] at hq10
                go_wp2
                go_round
                case rel => exact ⟨i' + 1, by omega, by omega, by go_num, HSK⟩
                case measure => simp [intOf]; omega
            · obtain rfl : i' = s.size := by omega
              have hend := rem_end s.data.toList
              rw [e1.out] at hend
              have HRN : Hid (Runs s.data.toList (skipTo s.data.toList s.size) rest er) := Lib.hid (by rw [← hend, hsk.out]; exact hruns.out)
              clear hend
              go_wp2
              go_roundw
              case rel => exact ⟨s.size, q, rest, rfl, by omega, by omega, hts, HRN, hrow, hF, hB⟩
              case measure => simp [intOf]; omega
        · have hwh := word_here s.data.toList i hl hbl2 (fun h1 hh => hrem ⟨by rw [← hg]; exact hh.1, by rw [e1.out] at h1; exact h1, by rw [← getElem_data]; exact hh.2⟩)
          have HWH := Lib.hid hwh; clear hwh
          have hnr : c ≠ 45 ∨ (c = 45 ∧ ∀ h1 : i + 1 < s.size, s[i + 1] ≠ 45) := by
            by_cases h : c = 45
            · exact .inr ⟨h, fun h1 h2 => hrem ⟨h, h1, h2⟩⟩
            · exact .inl h
          clear hrem hbl hbl2
          have hword := fun W (hW : Below wr.heap.size wr W) => rword_any b (o + i) (cap - i) (s.extract i s.size) W (bytes_later (bytes_from b o s wr HBY.out i) hW) (by rw [ByteArray.size_extract]; omega) (by rw [ByteArray.size_extract]; omega) (by rw [ByteArray.size_extract]; omega)
          have hsz : (s.extract i s.size).size = s.size - i := by rw [ByteArray.size_extract]; omega
          rw [hsz, drop_data] at hword
          have HW := Lib.hid hword; clear hword hsz
          rcases hnr with hc45 | ⟨hc45, hn1⟩
          · have q5 := rne_false c 45 hc45
            clear hc45 hg
            simp only [UInt8.reduceToNat, Int.cast_ofNat_Int] at q5
            cases hw : wordOf (s.data.toList.drop i) with
            | none =>
              have hbad := runs_bad _ _ _ _ hl hw (HWH.out ▸ hruns.out)
              have HBAD := Lib.hid hbad; clear hbad
              have Hw := Lib.hid hw; clear hw
              have HP := Lib.hid (fun W => placed_any 101 i W rfl)
              unfold faultV at HP
              go_wp2_with (first
                | (go_at_call 28; refine (HW.out _ (Below.refl _ _)).mono ?_; rw [Hw.out]; rintro e w1 ⟨rfl, hb1⟩; unfold tokV
                   have hF1 := Lib.hid (show FaultAt w1 w.heap.size from (hb1.block _ (Array.getElem?_eq_some_iff.1 hF.out).1).trans hF.out)
                   have hB1 := Lib.hid (hB.out.trans (hb1.mono hB.out.size)); have hzw1 := hb1.size; have hz2w := hB.out.size; clear hb1 HW HBY hck)
                | (go_at_call 27; go_must (refine (HP.out _).mono ?_); rintro e w2 ⟨rfl, hb2⟩
                   have hlt0 := (Array.getElem?_eq_some_iff.1 hF1.out).1
                   have hr := (hb2.block _ (by rw [World.size_alloc]; omega)).trans ((Below.heap_alloc w1 _ _ hlt0).trans hF1.out)
                   have g0 : w2.cell? ⟨w.heap.size, 0, none⟩ = some (.int .i64 0) := by simp [World.cell?, hr]
                   have g1 : w2.cell? ⟨w.heap.size, 1, none⟩ = some (.bool false) := by simp [World.cell?, hr]
                   have g2 : w2.cell? ⟨w.heap.size, 2, none⟩ = some (.int .i64 0) := by simp [World.cell?, hr]
                   have k0 : w2.frozen? ⟨w.heap.size, 0, none⟩ = false := by simp [World.frozen?, hr]
                   have k1 : w2.frozen? ⟨w.heap.size, 1, none⟩ = false := by simp [World.frozen?, hr]
                   have k2 : w2.frozen? ⟨w.heap.size, 2, none⟩ = false := by simp [World.frozen?, hr]
                   have HB2 := Lib.hid ((hB1.out.alloc hB1.out.size _).trans (hb2.mono (by rw [World.size_alloc]; have := hB1.out.size; omega))); clear hb2 hr HP))
              exact bodyPost_ret (v := .tuple #[.slice none 0 0, .agg #[.int .i64 101, .bool true, .int .i64 i]]) (by simp [results, Tryd.results11, go_sem, g0, g1, g2]) rfl ⟨((HB2.out.setCell (p := ⟨w.heap.size, 0, none⟩) (Nat.le_refl _) _).setCell (p := ⟨w.heap.size, 1, none⟩) (Nat.le_refl _) _).setCell (p := ⟨w.heap.size, 2, none⟩) (Nat.le_refl _) _, .inr ⟨i, HBAD.out.2, rfl⟩⟩
            | some r =>
              obtain ⟨k, n, v⟩ := r
              have hm := wordOf_len _ k n v hw
              rw [List.length_drop, e1.out] at hm
              obtain ⟨hm1, hm2⟩ := hm
              obtain ⟨ts', hts', hruns'⟩ := runs_word _ _ _ _ hl k n v hw (HWH.out ▸ hruns.out)
              have Hts' := Lib.hid hts'; clear hts'
              have Hruns' := Lib.hid hruns'; clear hruns'
              obtain ⟨t, ht⟩ : ∃ t, (s.extract i s.size).extract 0 n = t := ⟨_, rfl⟩
              have Ht := Lib.hid ht; clear ht
              have Hw := Lib.hid hw; clear hw
              have hn0 : ((n : Int) == 0) = false := by rw [beq_eq_false_iff_ne]; omega
              go_wp2_with (first
                | (go_at_call 28; refine (HW.out _ (Below.refl _ _)).mono ?_; rw [Hw.out]; rintro e w1 ⟨rfl, hb1⟩; rw [Ht.out]; unfold tokV
                   have hrow1 := Lib.hid (row_kept hrow.out (grown_of_below hb1) (fun r e => by cases e))
                   have hF1 := Lib.hid (show FaultAt w1 w.heap.size from (hb1.block _ (Array.getElem?_eq_some_iff.1 hF.out).1).trans hF.out)
                   have hB1 := Lib.hid (hB.out.trans (hb1.mono hB.out.size)); have hzw1 := hb1.size; have hz2w := hB.out.size; have hz3 : w.heap.size + 1 ≤ w1.heap.size := (Array.getElem?_eq_some_iff.1 hF1.out).1; clear hb1 HW HBY hck)
                | (at_builtin; refine wpList_append_own _ rfl _ _ 24 rfl (w.heap.size + 1) 40 i0 (.agg #[.int .i64 0, .int .i64 0, .string ⟨#[]⟩, .int .i64 0]) 4 40 Tryd.underlying24 hi hz0 hz1 hz2 rfl (by decide) _ _ _ rfl ((hrow1.out.alloc _).alloc _) ⟨w1.heap.size + 1, 0, none⟩ 1 1 [.int .i64 k, .int .i64 i, .string t, .int .i64 v] rfl rfl (cell_four_two w1 _ _ _ _ _ _) (by simp [Value.oneCell']) (by unfold maxLen; omega) (by omega) (by simp; omega) ?_; intro v' w2 hown' hgrow _; have HO := Lib.hid hown'; have HG := Lib.hid hgrow; clear hown' hgrow))
              go_roundw
              case rel =>
                have hne : some w.heap.size ≠ u4.ownBlock := fun e => by have := (hrow.out.lt _ e.symm).1; omega
                refine ⟨i + n, q ++ [⟨k, i, n, v⟩], ts', by go_num, by omega, by simp; omega, Lib.hid (by rw [hts.out, Hts'.out]; simp), Hruns', Lib.hid ?_, Lib.hid ?_, Lib.hid ?_⟩
                · have := HO.out
                  rw [rowOf_snoc, List.length_append]
                  show w2.ownsRow _ _ _ _ (q.length + 1) (rowOf s q ++ [.int .i64 k, .int .i64 i, .string ((s.extract i s.size).extract 0 n), .int .i64 v])
                  rw [Ht.out]; exact this
                · exact (HG.out.block _ (by simp; omega) hne).trans ((Below.heap_alloc _ _ _ (by simp; omega)).trans ((Below.heap_alloc w1 _ _ (by omega)).trans hF1.out))
                · exact ((hB1.out.alloc hB1.out.size _).alloc (by simp; omega) _).grown HG.out (by simp; omega) fun j ej => by have := (hrow.out.lt _ ej).1; omega
              case measure => simp [intOf]; omega
          · have HC := Lib.hid (hc.trans hc45)
            rw [hc45] at hck
            simp only [UInt8.reduceToNat, Int.cast_ofNat_Int] at hck
            clear hc45 hg q1 q2 q3 q4 hc
            by_cases h1 : i + 1 < s.size
            · have hck1 := HBY.out (i + 1) h1
              obtain ⟨d, hd⟩ : ∃ d, s[i + 1] = d := ⟨_, rfl⟩
              have q6 := rne_false d 45 (by rw [← hd]; exact hn1 h1)
              rw [hd] at hck1
              simp only [UInt8.reduceToNat, Int.cast_ofNat_Int] at q6
              have HD := Lib.hid hd; clear hd hn1
              cases hw : wordOf (s.data.toList.drop i) with
              | none =>
                have hbad := runs_bad _ _ _ _ hl hw (HWH.out ▸ hruns.out)
                have HBAD := Lib.hid hbad; clear hbad
                have Hw := Lib.hid hw; clear hw
                have HP := Lib.hid (fun W => placed_any 101 i W rfl)
                unfold faultV at HP
                go_wp2_with (first
                  | (go_at_call 28; refine (HW.out _ (Below.refl _ _)).mono ?_; rw [Hw.out]; rintro e w1 ⟨rfl, hb1⟩; unfold tokV
                     have hF1 := Lib.hid (show FaultAt w1 w.heap.size from (hb1.block _ (Array.getElem?_eq_some_iff.1 hF.out).1).trans hF.out)
                     have hB1 := Lib.hid (hB.out.trans (hb1.mono hB.out.size)); have hzw1 := hb1.size; have hz2w := hB.out.size; clear hb1 HW HBY)
                  | (go_at_call 27; go_must (refine (HP.out _).mono ?_); rintro e w2 ⟨rfl, hb2⟩
                     have hlt0 := (Array.getElem?_eq_some_iff.1 hF1.out).1
                     have hr := (hb2.block _ (by rw [World.size_alloc]; omega)).trans ((Below.heap_alloc w1 _ _ hlt0).trans hF1.out)
                     have g0 : w2.cell? ⟨w.heap.size, 0, none⟩ = some (.int .i64 0) := by simp [World.cell?, hr]
                     have g1 : w2.cell? ⟨w.heap.size, 1, none⟩ = some (.bool false) := by simp [World.cell?, hr]
                     have g2 : w2.cell? ⟨w.heap.size, 2, none⟩ = some (.int .i64 0) := by simp [World.cell?, hr]
                     have k0 : w2.frozen? ⟨w.heap.size, 0, none⟩ = false := by simp [World.frozen?, hr]
                     have k1 : w2.frozen? ⟨w.heap.size, 1, none⟩ = false := by simp [World.frozen?, hr]
                     have k2 : w2.frozen? ⟨w.heap.size, 2, none⟩ = false := by simp [World.frozen?, hr]
                     have HB2 := Lib.hid ((hB1.out.alloc hB1.out.size _).trans (hb2.mono (by rw [World.size_alloc]; have := hB1.out.size; omega))); clear hb2 hr HP))
                exact bodyPost_ret (v := .tuple #[.slice none 0 0, .agg #[.int .i64 101, .bool true, .int .i64 i]]) (by simp [results, Tryd.results11, go_sem, g0, g1, g2]) rfl ⟨((HB2.out.setCell (p := ⟨w.heap.size, 0, none⟩) (Nat.le_refl _) _).setCell (p := ⟨w.heap.size, 1, none⟩) (Nat.le_refl _) _).setCell (p := ⟨w.heap.size, 2, none⟩) (Nat.le_refl _) _, .inr ⟨i, HBAD.out.2, rfl⟩⟩
              | some r =>
                obtain ⟨k, n, v⟩ := r
                have hm := wordOf_len _ k n v hw
                rw [List.length_drop, e1.out] at hm
                obtain ⟨hm1, hm2⟩ := hm
                obtain ⟨ts', hts', hruns'⟩ := runs_word _ _ _ _ hl k n v hw (HWH.out ▸ hruns.out)
                have Hts' := Lib.hid hts'; clear hts'
                have Hruns' := Lib.hid hruns'; clear hruns'
                obtain ⟨t, ht⟩ : ∃ t, (s.extract i s.size).extract 0 n = t := ⟨_, rfl⟩
                have Ht := Lib.hid ht; clear ht
                have Hw := Lib.hid hw; clear hw
                have hn0 : ((n : Int) == 0) = false := by rw [beq_eq_false_iff_ne]; omega
                go_wp2_with (first
                  | (go_at_call 28; refine (HW.out _ (Below.refl _ _)).mono ?_; rw [Hw.out]; rintro e w1 ⟨rfl, hb1⟩; rw [Ht.out]; unfold tokV
                     have hrow1 := Lib.hid (row_kept hrow.out (grown_of_below hb1) (fun r e => by cases e))
                     have hF1 := Lib.hid (show FaultAt w1 w.heap.size from (hb1.block _ (Array.getElem?_eq_some_iff.1 hF.out).1).trans hF.out)
                     have hB1 := Lib.hid (hB.out.trans (hb1.mono hB.out.size)); have hzw1 := hb1.size; have hz2w := hB.out.size; have hz3 : w.heap.size + 1 ≤ w1.heap.size := (Array.getElem?_eq_some_iff.1 hF1.out).1; clear hb1 HW HBY)
                  | (at_builtin; refine wpList_append_own _ rfl _ _ 24 rfl (w.heap.size + 1) 40 i0 (.agg #[.int .i64 0, .int .i64 0, .string ⟨#[]⟩, .int .i64 0]) 4 40 Tryd.underlying24 hi hz0 hz1 hz2 rfl (by decide) _ _ _ rfl ((hrow1.out.alloc _).alloc _) ⟨w1.heap.size + 1, 0, none⟩ 1 1 [.int .i64 k, .int .i64 i, .string t, .int .i64 v] rfl rfl (cell_four_two w1 _ _ _ _ _ _) (by simp [Value.oneCell']) (by unfold maxLen; omega) (by omega) (by simp; omega) ?_; intro v' w2 hown' hgrow _; have HO := Lib.hid hown'; have HG := Lib.hid hgrow; clear hown' hgrow))
                go_roundw
                case rel =>
                  have hne : some w.heap.size ≠ u4.ownBlock := fun e => by have := (hrow.out.lt _ e.symm).1; omega
                  refine ⟨i + n, q ++ [⟨k, i, n, v⟩], ts', by go_num, by omega, by simp; omega, Lib.hid (by rw [hts.out, Hts'.out]; simp), Hruns', Lib.hid ?_, Lib.hid ?_, Lib.hid ?_⟩
                  · have := HO.out
                    rw [rowOf_snoc, List.length_append]
                    show w2.ownsRow _ _ _ _ (q.length + 1) (rowOf s q ++ [.int .i64 k, .int .i64 i, .string ((s.extract i s.size).extract 0 n), .int .i64 v])
                    rw [Ht.out]; exact this
                  · exact (HG.out.block _ (by simp; omega) hne).trans ((Below.heap_alloc _ _ _ (by simp; omega)).trans ((Below.heap_alloc w1 _ _ (by omega)).trans hF1.out))
                  · exact ((hB1.out.alloc hB1.out.size _).alloc (by simp; omega) _).grown HG.out (by simp; omega) fun j ej => by have := (hrow.out.lt _ ej).1; omega
                case measure => simp [intOf]; omega
            · clear hn1
              cases hw : wordOf (s.data.toList.drop i) with
              | none =>
                have hbad := runs_bad _ _ _ _ hl hw (HWH.out ▸ hruns.out)
                have HBAD := Lib.hid hbad; clear hbad
                have Hw := Lib.hid hw; clear hw
                have HP := Lib.hid (fun W => placed_any 101 i W rfl)
                unfold faultV at HP
                go_wp2_with (first
                  | (go_at_call 28; refine (HW.out _ (Below.refl _ _)).mono ?_; rw [Hw.out]; rintro e w1 ⟨rfl, hb1⟩; unfold tokV
                     have hF1 := Lib.hid (show FaultAt w1 w.heap.size from (hb1.block _ (Array.getElem?_eq_some_iff.1 hF.out).1).trans hF.out)
                     have hB1 := Lib.hid (hB.out.trans (hb1.mono hB.out.size)); have hzw1 := hb1.size; have hz2w := hB.out.size; clear hb1 HW HBY)
                  | (go_at_call 27; go_must (refine (HP.out _).mono ?_); rintro e w2 ⟨rfl, hb2⟩
                     have hlt0 := (Array.getElem?_eq_some_iff.1 hF1.out).1
                     have hr := (hb2.block _ (by rw [World.size_alloc]; omega)).trans ((Below.heap_alloc w1 _ _ hlt0).trans hF1.out)
                     have g0 : w2.cell? ⟨w.heap.size, 0, none⟩ = some (.int .i64 0) := by simp [World.cell?, hr]
                     have g1 : w2.cell? ⟨w.heap.size, 1, none⟩ = some (.bool false) := by simp [World.cell?, hr]
                     have g2 : w2.cell? ⟨w.heap.size, 2, none⟩ = some (.int .i64 0) := by simp [World.cell?, hr]
                     have k0 : w2.frozen? ⟨w.heap.size, 0, none⟩ = false := by simp [World.frozen?, hr]
                     have k1 : w2.frozen? ⟨w.heap.size, 1, none⟩ = false := by simp [World.frozen?, hr]
                     have k2 : w2.frozen? ⟨w.heap.size, 2, none⟩ = false := by simp [World.frozen?, hr]
                     have HB2 := Lib.hid ((hB1.out.alloc hB1.out.size _).trans (hb2.mono (by rw [World.size_alloc]; have := hB1.out.size; omega))); clear hb2 hr HP))
                exact bodyPost_ret (v := .tuple #[.slice none 0 0, .agg #[.int .i64 101, .bool true, .int .i64 i]]) (by simp [results, Tryd.results11, go_sem, g0, g1, g2]) rfl ⟨((HB2.out.setCell (p := ⟨w.heap.size, 0, none⟩) (Nat.le_refl _) _).setCell (p := ⟨w.heap.size, 1, none⟩) (Nat.le_refl _) _).setCell (p := ⟨w.heap.size, 2, none⟩) (Nat.le_refl _) _, .inr ⟨i, HBAD.out.2, rfl⟩⟩
              | some r =>
                obtain ⟨k, n, v⟩ := r
                have hm := wordOf_len _ k n v hw
                rw [List.length_drop, e1.out] at hm
                obtain ⟨hm1, hm2⟩ := hm
                obtain ⟨ts', hts', hruns'⟩ := runs_word _ _ _ _ hl k n v hw (HWH.out ▸ hruns.out)
                have Hts' := Lib.hid hts'; clear hts'
                have Hruns' := Lib.hid hruns'; clear hruns'
                obtain ⟨t, ht⟩ : ∃ t, (s.extract i s.size).extract 0 n = t := ⟨_, rfl⟩
                have Ht := Lib.hid ht; clear ht
                have Hw := Lib.hid hw; clear hw
                have hn0 : ((n : Int) == 0) = false := by rw [beq_eq_false_iff_ne]; omega
                go_wp2_with (first
                  | (go_at_call 28; refine (HW.out _ (Below.refl _ _)).mono ?_; rw [Hw.out]; rintro e w1 ⟨rfl, hb1⟩; rw [Ht.out]; unfold tokV
                     have hrow1 := Lib.hid (row_kept hrow.out (grown_of_below hb1) (fun r e => by cases e))
                     have hF1 := Lib.hid (show FaultAt w1 w.heap.size from (hb1.block _ (Array.getElem?_eq_some_iff.1 hF.out).1).trans hF.out)
                     have hB1 := Lib.hid (hB.out.trans (hb1.mono hB.out.size)); have hzw1 := hb1.size; have hz2w := hB.out.size; have hz3 : w.heap.size + 1 ≤ w1.heap.size := (Array.getElem?_eq_some_iff.1 hF1.out).1; clear hb1 HW HBY)
                  | (at_builtin; refine wpList_append_own _ rfl _ _ 24 rfl (w.heap.size + 1) 40 i0 (.agg #[.int .i64 0, .int .i64 0, .string ⟨#[]⟩, .int .i64 0]) 4 40 Tryd.underlying24 hi hz0 hz1 hz2 rfl (by decide) _ _ _ rfl ((hrow1.out.alloc _).alloc _) ⟨w1.heap.size + 1, 0, none⟩ 1 1 [.int .i64 k, .int .i64 i, .string t, .int .i64 v] rfl rfl (cell_four_two w1 _ _ _ _ _ _) (by simp [Value.oneCell']) (by unfold maxLen; omega) (by omega) (by simp; omega) ?_; intro v' w2 hown' hgrow _; have HO := Lib.hid hown'; have HG := Lib.hid hgrow; clear hown' hgrow))
                go_roundw
                case rel =>
                  have hne : some w.heap.size ≠ u4.ownBlock := fun e => by have := (hrow.out.lt _ e.symm).1; omega
                  refine ⟨i + n, q ++ [⟨k, i, n, v⟩], ts', by go_num, by omega, by simp; omega, Lib.hid (by rw [hts.out, Hts'.out]; simp), Hruns', Lib.hid ?_, Lib.hid ?_, Lib.hid ?_⟩
                  · have := HO.out
                    rw [rowOf_snoc, List.length_append]
                    show w2.ownsRow _ _ _ _ (q.length + 1) (rowOf s q ++ [.int .i64 k, .int .i64 i, .string ((s.extract i s.size).extract 0 n), .int .i64 v])
                    rw [Ht.out]; exact this
                  · exact (HG.out.block _ (by simp; omega) hne).trans ((Below.heap_alloc _ _ _ (by simp; omega)).trans ((Below.heap_alloc w1 _ _ (by omega)).trans hF1.out))
                  · exact ((hB1.out.alloc hB1.out.size _).alloc (by simp; omega) _).grown HG.out (by simp; omega) fun j ej => by have := (hrow.out.lt _ ej).1; omega
                case measure => simp [intOf]; omega
    · obtain rfl : i = s.size := by omega
      have hst := runs_stop _ _ _ _ (by rw [skipTo_end _ _ (by rw [e1.out]; exact Nat.le_refl _), e1.out]; exact Nat.le_refl _) hruns.out
      have HS := Lib.hid hst; clear hst
      have HP := Lib.hid (fun W => none_any W)
      unfold faultV at HP
      go_wp2_with (first
        | (go_at_call 14; go_must (refine (HP.out _).mono ?_); rintro e w2 ⟨rfl, hb2⟩
           have hr := (hb2.block _ (Array.getElem?_eq_some_iff.1 hF.out).1).trans hF.out
           have g0 : w2.cell? ⟨w.heap.size, 0, none⟩ = some (.int .i64 0) := by simp [World.cell?, hr]
           have g1 : w2.cell? ⟨w.heap.size, 1, none⟩ = some (.bool false) := by simp [World.cell?, hr]
           have g2 : w2.cell? ⟨w.heap.size, 2, none⟩ = some (.int .i64 0) := by simp [World.cell?, hr]
           have k0 : w2.frozen? ⟨w.heap.size, 0, none⟩ = false := by simp [World.frozen?, hr]
           have k1 : w2.frozen? ⟨w.heap.size, 1, none⟩ = false := by simp [World.frozen?, hr]
           have k2 : w2.frozen? ⟨w.heap.size, 2, none⟩ = false := by simp [World.frozen?, hr]
           have HR2 := Lib.hid hr; have HB2 := Lib.hid hb2; clear hb2 hr HP))
      have hq2 : q = ts := by rw [hts.out, HS.out.1, List.append_nil]
      have hne : some w.heap.size ≠ u4.ownBlock := fun e => by have := (hrow.out.lt _ e.symm).1; omega
      have hrow2 := row_kept hrow.out (grown_of_below HB2.out) (fun r e => by cases e)
      have hrow3 := row_three hrow2 (Nat.lt_succ_self _) (.int .i64 0) (.bool false) (.int .i64 0)
      rw [hq2] at hrow3
      exact bodyPost_ret (v := .tuple #[u4, .agg #[.int .i64 0, .bool false, .int .i64 0]]) (by simp [results, Tryd.results11, go_sem, g0, g1, g2]) rfl ⟨(((hB.out.trans (HB2.out.mono hB.out.size)).setCell (p := ⟨w.heap.size, 0, none⟩) (Nat.le_refl _) _).setCell (p := ⟨w.heap.size, 1, none⟩) (Nat.le_refl _) _).setCell (p := ⟨w.heap.size, 2, none⟩) (Nat.le_refl _) _, .inl ⟨HS.out.2, u4, rfl, hrow3⟩⟩
end Go.Proofs.YtnlpilceooncmaaDoor
