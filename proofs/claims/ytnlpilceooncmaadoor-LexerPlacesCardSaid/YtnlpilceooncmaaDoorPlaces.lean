import Derived.Test.YtnlpilceooncmaaDoorRemarks
import Derived.Test.YtnlpilceooncmaaDoorPlacesPlain
namespace Go.Proofs.YtnlpilceooncmaaDoor
open Go.RowKit

theorem blank_cases (c : UInt8) (h : blankB c = true) : c = 32 ∨ c = 9 ∨ c = 10 ∨ c = 13 := by
  unfold blankB at h
  simp only [Bool.or_eq_true, beq_iff_eq] at h
  rcases h with ((h | h) | h) | h
  · exact .inl (UInt8.toNat_inj.1 h)
  · exact .inr (.inl (UInt8.toNat_inj.1 h))
  · exact .inr (.inr (.inl (UInt8.toNat_inj.1 h)))
  · exact .inr (.inr (.inr (UInt8.toNat_inj.1 h)))
theorem toNat_eqF (c n : UInt8) (h : c ≠ n) : ((c.toNat : Int) == (n.toNat : Int)) = false := by
  rw [beq_eq_false_iff_ne]
  intro e
  exact h (UInt8.toNat_inj.1 (by omega))

set_option maxHeartbeats 4000000 in
set_option maxRecDepth 100000 in
theorem places_any (a0 : Option Addr) (len0 cap0 : Nat) (s : ByteArray) (aL : Addr) (w : World) (hv : BytesAt w (.slice a0 len0 cap0) s) (hcap : len0 ≤ cap0) (hE : w.cell? ⟨0, 0, none⟩ = some (errL aL)) :
    Calls Tryd.prog 4 #[.slice a0 len0 cap0] w fun e w' => e = .returned (.bool true) ∧ Below w.heap.size w w' := by
  have HV := Lib.hid hv
  obtain ⟨a, cap, hvv, ha⟩ := hv
  simp only [Value.slice.injEq] at hvv
  obtain ⟨rfl, rfl, rfl⟩ := hvv
  obtain ⟨a, rfl⟩ : ∃ a, a = a0 := ⟨_, rfl⟩
  obtain ⟨cap, rfl⟩ : ∃ cap, cap = cap0 := ⟨_, rfl⟩
  have HE := Lib.hid hE
  by_cases hbig : 400 < s.size
  · go_enter Tryd.func4, Tryd.ntmps4
    go_wp2_with (go_at_call 9; refine (first_any aL _ HE.out).mono ?_; rintro e w1 ⟨rfl, hb1⟩)
    go_ret
    exact ⟨rfl, hb1⟩
  · have hg := World.block_lt_of_cell? _ _ hE
    have hruns := runs_some s.data.toList (skipTo s.data.toList 0)
    obtain ⟨ts, hts⟩ : ∃ ts, (lexF s.data.toList (s.data.toList.length + 1) (skipTo s.data.toList 0)).1 = ts := ⟨_, rfl⟩
    obtain ⟨er, her⟩ : ∃ er, (lexF s.data.toList (s.data.toList.length + 1) (skipTo s.data.toList 0)).2 = er := ⟨_, rfl⟩
    rw [hts, her] at hruns
    clear hts her hE
    have hts400 := runs_length _ _ _ _ hruns
    rw [length_data] at hts400
    replace hts400 : ts.length ≤ 400 := by omega
    have Hr := Lib.hid hruns; clear hruns
    go_enter Tryd.func4, Tryd.ntmps4
    go_wp2_with (go_at_call 9; refine (first_any aL _ HE.out).mono ?_; rintro e w1 ⟨rfl, hb1⟩)
    refine (split_any _ s (by omega) aL ts er Hr.out _ (HV.out.later hb1) ((hb1.cell (p := ⟨0, 0, none⟩) hg).trans HE.out)).mono ?_
    rintro e w2 ⟨hb2, (⟨rfl, u, rfl, hrow⟩ | ⟨p, b, rfl, rfl, hat⟩)⟩
    · have hB2 := hb1.trans (hb2.mono hb1.size)
      have hu : ∃ a1 cap1, u = .slice a1 ts.length cap1 ∧ (ts ≠ [] → ts.length ≤ cap1 ∧ ∃ g, a1 = some ⟨g, 0, none⟩ ∧ ToksAt w2 g s ts) := by
        rcases row_toks hrow with ⟨rfl, rfl⟩ | ⟨g, cap1, rfl, _, _, hc, ht⟩
        · exact ⟨none, 0, rfl, fun h => absurd rfl h⟩
        · exact ⟨_, _, rfl, fun _ => ⟨hc, g, rfl, ht⟩⟩
      obtain ⟨a1, cap1, rfl, hu⟩ := hu
      have HU := Lib.hid hu; clear hu hrow
      have hbytes : ∀ k (h : k < s.size), ∃ b o, a = some ⟨b, o, none⟩ ∧ ∀ j (hj : j < s.size), w2.cell? ⟨b, o + j, none⟩ = some (.int .u8 (s[j].toNat : Int)) := fun k h => by
        rcases ha with h0 | ⟨b, o, rfl, hby⟩
        · omega
        · exact ⟨b, o, rfl, fun j hj => (hB2.cell (p := ⟨b, o + j, none⟩) (World.block_lt_of_cell? _ _ (hby j hj))).trans (hby j hj)⟩
      have HBY := Lib.hid hbytes; clear hbytes ha
      go_wp2
      go_loop [6, 7] (fun va vi => ∃ (at_ i : Nat) (rest : List Tok), va = .int .i64 at_ ∧ vi = .int .i64 i ∧ at_ ≤ s.size ∧ i + rest.length = ts.length ∧ Hid (ts.drop i = rest) ∧ Hid (Runs s.data.toList (skipTo s.data.toList at_) rest none)) (fun _ vi => ts.length + 1 - (intOf vi).toNat)
      case atStart => exact ⟨0, 0, ts, rfl, rfl, Nat.zero_le _, by omega, Lib.hid rfl, Hr⟩
      case round =>
        obtain ⟨at_, i, rest, rfl, rfl, hat, hil, hdrop, hrun⟩ := hrel
        cases rest with
        | nil =>
          have hge := runs_nil_none _ _ hrun.out
          have hle := skipTo_le s.data.toList at_ (by rw [length_data]; exact hat)
          rw [length_data] at hge hle
          have hgap : Gap s.data.toList false at_ s.size := by rw [← Nat.le_antisymm hle hge]; exact gap_start _ _
          have HG := Lib.hid hgap; clear hgap hge hle
          have hnle : at_ ≤ s.size := hat
          simp only [List.length_nil, Nat.add_zero] at hil
          subst hil
          go_wp2
          go_loop [9, 10] (fun vr vk => ∃ (k : Nat) (r : Bool), vr = .bool r ∧ vk = .int .i64 k ∧ at_ ≤ k ∧ k ≤ s.size ∧ Hid (Gap s.data.toList r k (s.size))) (fun _ vk => s.size - (intOf vk).toNat)
          case atStart => exact ⟨at_, false, rfl, rfl, Nat.le_refl _, hnle, HG⟩
          case round =>
            obtain ⟨k, r, rfl, rfl, hk1, hk2, hgap⟩ := hrel
            by_cases hlt : k < s.size
            · obtain ⟨hkl, q1, q2⟩ := gap_next _ _ _ _ hgap.out hlt
              have hks : k < s.size := by rw [length_data] at hkl; exact hkl
              obtain ⟨b, o, rfl, hall⟩ := HBY.out k hks
              have HA := Lib.hid hall; clear hall
              have hcell := HA.out k hks
              rw [getElem_data s k hks] at q1 q2
              cases r with
              | false =>
                have q := q1 rfl
                clear q1 q2
                rcases q with ⟨hb, hn⟩ | ⟨_, h45, hk1n, ⟨h1, h45'⟩, hn⟩
                · have HN := Lib.hid hn; clear hn
                  rcases blank_cases _ hb with h | h | h | h
                  all_goals
                    rw [h] at hcell
                    clear h hb
                    simp only [UInt8.reduceToNat, Int.cast_ofNat_Int] at hcell
                    go_wp2
                    go_round
                    case rel => exact ⟨k + 1, false, rfl, by go_num, by omega, by omega, HN⟩
                    case measure => simp [intOf]; omega
                · have HN := Lib.hid hn; clear hn
                  have hks1 : k + 1 < s.size := by rw [length_data] at h1; exact h1
                  have hcell1 := HA.out (k + 1) hks1
                  rw [getElem_data s (k + 1) hks1] at h45'
                  rw [h45] at hcell
                  rw [h45'] at hcell1
                  clear h45 h45'
                  simp only [UInt8.reduceToNat, Int.cast_ofNat_Int] at hcell hcell1
                  go_wp2
                  go_round
                  case rel => exact ⟨k + 1, true, rfl, by go_num, by omega, by omega, HN⟩
                  case measure => simp [intOf]; omega
              | true =>
                have q := q2 rfl
                clear q1 q2
                obtain ⟨qa, qb⟩ := q
                by_cases h10 : s[k] = 10
                · have HN := Lib.hid (qa h10); clear qa qb
                  rw [h10] at hcell
                  clear h10
                  simp only [UInt8.reduceToNat, Int.cast_ofNat_Int] at hcell
                  go_wp2
                  go_round
                  case rel => exact ⟨k + 1, false, rfl, by go_num, by omega, by omega, HN⟩
                  case measure => simp [intOf]; omega
                · have HN := Lib.hid (qb h10); clear qa qb
                  by_cases h45 : s[k] = 45
                  · rw [h45] at hcell
                    clear h45 h10
                    simp only [UInt8.reduceToNat, Int.cast_ofNat_Int] at hcell
                    by_cases hk1n : k + 1 < s.size
                    · have hks1 : k + 1 < s.size := by omega
                      have hcell1 := HA.out (k + 1) hks1
                      go_wp2
                      all_goals
                        go_round
                        case rel => exact ⟨k + 1, true, rfl, by go_num, by omega, by omega, HN⟩
                        case measure => simp [intOf]; omega
                    · go_wp2
                      go_round
                      case rel => exact ⟨k + 1, true, rfl, by go_num, by omega, by omega, HN⟩
                      case measure => simp [intOf]; omega
                  · have hF1 := toNat_eqF _ 45 h45
                    have hF2 := toNat_eqF _ 10 h10
                    clear h45 h10
                    simp only [UInt8.reduceToNat, Int.cast_ofNat_Int] at hF1 hF2
                    go_wp2
                    go_round
                    case rel => exact ⟨k + 1, true, rfl, by go_num, by omega, by omega, HN⟩
                    case measure => simp [intOf]; omega
            · go_wp2
              go_ret
              exact ⟨rfl, hB2⟩
        | cons t rest =>
          obtain ⟨r1, r2, r3, r4⟩ := runs_cons _ _ _ _ _ hrun.out
          have hw := wordOf_len _ _ _ _ r2
          rw [length_data] at r1
          rw [List.length_drop, length_data] at hw
          have hge := skipTo_ge s.data.toList at_
          rw [← r3] at r1 hw hge
          have hgap : Gap s.data.toList false at_ t.pos := by rw [r3]; exact gap_start _ _
          have HG := Lib.hid hgap; clear hgap
          have R4 : Hid (Runs s.data.toList (skipTo s.data.toList (t.pos + t.len)) rest none) := Lib.hid (by rw [r3]; exact r4)
          clear r2 r3 r4
          have hnle : at_ ≤ t.pos := hge
          have hilt : i < ts.length := by simp at hil; omega
          have hti : ts[i] = t := by
            have := hdrop.out
            rw [List.drop_eq_getElem_cons hilt] at this
            exact (List.cons.inj this).1
          have hdrop' : ts.drop (i + 1) = rest := by
            have := hdrop.out
            rw [List.drop_eq_getElem_cons hilt] at this
            exact (List.cons.inj this).2
          have HD := Lib.hid hdrop'; clear hdrop' hdrop
          obtain ⟨hcap1, g, rfl, htoks⟩ := HU.out (by rintro rfl; simp at hilt)
          have ht := htoks i hilt
          rw [hti] at ht
          obtain ⟨_, c1, c2, _⟩ := ht
          have htl : ((s.extract t.pos s.size).extract 0 t.len).size = t.len := by simp [ByteArray.size_extract]; omega
          have htp : (s.extract t.pos s.size).extract 0 t.len = s.extract t.pos (t.pos + t.len) := by
            apply ByteArray.ext
            apply Array.toList_inj.1
            rw [Lib.extract_data, drop_data, Lib.extract_data, List.drop_zero, Nat.sub_zero, Nat.add_sub_cancel_left]
          rw [htp] at c2 htl
          obtain ⟨tx, htx⟩ : ∃ tx, s.extract t.pos (t.pos + t.len) = tx := ⟨_, rfl⟩
          rw [htx] at c2 htl
          have HX := Lib.hid htx; clear htx htp hti htoks
          have hl1 : i ≤ ts.length := by omega
          have hne : ((i : Int) == (ts.length : Int)) = false := by rw [beq_eq_false_iff_ne]; omega
          have hl0 : ((t.len : Int) == 0) = false := by rw [beq_eq_false_iff_ne]; omega
          simp only [List.length_cons] at hil
          obtain ⟨b, o, rfl, hall⟩ := HBY.out t.pos r1
          have hsl := Lib.run_slice_window (P := Tryd.prog) w2 22 5 Tryd.underlying22 (fun _ => by kernel_rfl) b o s.size cap t.pos (t.pos + t.len) (by omega) (by omega)
          have hcv := Lib.run_convert_window (P := Tryd.prog) w2 22 5 9 Tryd.underlying22 Tryd.underlying5 Tryd.underlying9 b o s hall t.pos t.len (cap - t.pos) (by omega)
          rw [HX.out] at hcv
          simp only [Int.natCast_add, Nat.add_sub_cancel_left] at hsl
          have HA := Lib.hid hall; clear hall
          go_wp2
          go_loop [9, 10] (fun vr vk => ∃ (k : Nat) (r : Bool), vr = .bool r ∧ vk = .int .i64 k ∧ at_ ≤ k ∧ k ≤ t.pos ∧ Hid (Gap s.data.toList r k (t.pos))) (fun _ vk => t.pos - (intOf vk).toNat)
          case atStart => exact ⟨at_, false, rfl, rfl, Nat.le_refl _, hnle, HG⟩
          case round =>
            obtain ⟨k, r, rfl, rfl, hk1, hk2, hgap⟩ := hrel
            by_cases hlt : k < t.pos
            · obtain ⟨hkl, q1, q2⟩ := gap_next _ _ _ _ hgap.out hlt
              have hks : k < s.size := by rw [length_data] at hkl; exact hkl
              have hcell := HA.out k hks
              rw [getElem_data s k hks] at q1 q2
              cases r with
              | false =>
                have q := q1 rfl
                clear q1 q2
                rcases q with ⟨hb, hn⟩ | ⟨_, h45, hk1n, ⟨h1, h45'⟩, hn⟩
                · have HN := Lib.hid hn; clear hn
                  rcases blank_cases _ hb with h | h | h | h
                  all_goals
                    rw [h] at hcell
                    clear h hb
                    simp only [UInt8.reduceToNat, Int.cast_ofNat_Int] at hcell
                    go_wp2
                    go_round
                    case rel => exact ⟨k + 1, false, rfl, by go_num, by omega, by omega, HN⟩
                    case measure => simp [intOf]; omega
                · have HN := Lib.hid hn; clear hn
                  have hks1 : k + 1 < s.size := by rw [length_data] at h1; exact h1
                  have hcell1 := HA.out (k + 1) hks1
                  rw [getElem_data s (k + 1) hks1] at h45'
                  rw [h45] at hcell
                  rw [h45'] at hcell1
                  clear h45 h45'
                  simp only [UInt8.reduceToNat, Int.cast_ofNat_Int] at hcell hcell1
                  go_wp2
                  go_round
                  case rel => exact ⟨k + 1, true, rfl, by go_num, by omega, by omega, HN⟩
                  case measure => simp [intOf]; omega
              | true =>
                have q := q2 rfl
                clear q1 q2
                obtain ⟨qa, qb⟩ := q
                by_cases h10 : s[k] = 10
                · have HN := Lib.hid (qa h10); clear qa qb
                  rw [h10] at hcell
                  clear h10
                  simp only [UInt8.reduceToNat, Int.cast_ofNat_Int] at hcell
                  go_wp2
                  go_round
                  case rel => exact ⟨k + 1, false, rfl, by go_num, by omega, by omega, HN⟩
                  case measure => simp [intOf]; omega
                · have HN := Lib.hid (qb h10); clear qa qb
                  by_cases h45 : s[k] = 45
                  · rw [h45] at hcell
                    clear h45 h10
                    simp only [UInt8.reduceToNat, Int.cast_ofNat_Int] at hcell
                    by_cases hk1n : k + 1 < t.pos
                    · have hks1 : k + 1 < s.size := by omega
                      have hcell1 := HA.out (k + 1) hks1
                      go_wp2
                      all_goals
                        go_round
                        case rel => exact ⟨k + 1, true, rfl, by go_num, by omega, by omega, HN⟩
                        case measure => simp [intOf]; omega
                    · go_wp2
                      go_round
                      case rel => exact ⟨k + 1, true, rfl, by go_num, by omega, by omega, HN⟩
                      case measure => simp [intOf]; omega
                  · have hF1 := toNat_eqF _ 45 h45
                    have hF2 := toNat_eqF _ 10 h10
                    clear h45 h10
                    simp only [UInt8.reduceToNat, Int.cast_ofNat_Int] at hF1 hF2
                    go_wp2
                    go_round
                    case rel => exact ⟨k + 1, true, rfl, by go_num, by omega, by omega, HN⟩
                    case measure => simp [intOf]; omega
            · have hkn : k = t.pos := by omega
              subst hkn
              go_wp2
              refine ⟨⟨t.pos + t.len, i + 1, rest, by go_num, by go_num, by omega, by omega, HD, R4⟩, ?_⟩
              simp [intOf]; omega
    · unfold errVal
      go_wp2
      go_ret
      exact ⟨rfl, hb1.trans (hb2.mono hb1.size)⟩
end Go.Proofs.YtnlpilceooncmaaDoor
