/- slices.CompactFunc of a row of pairs. -/
import Derived.Test.YtmbaolcdjgilpaaSbClear
namespace Go.Proofs.Ytmbaolcdjgilpaa
open Go.RowKit Go.Sort Go.Lib
attribute [local go_sem] Oper.semAt_some

theorem name_beq (x y : PR) : (x.n.toList == y.n.toList) = true ↔ x.n = y.n := by
  rw [bytes_beq]; exact eqB_iff
theorem getD_bang (d : Array PR) (i : Nat) (h : i < d.size) : d.toList.getD i noP = d[i]! := by rw [bang d i h]; simp [List.getD, h]
theorem getD_list (l : List PR) (i : Nat) (h : i < l.length) : l.getD i noP = l.toArray[i]! := by have := getD_bang l.toArray i (by simpa using h); simpa using this

set_option maxHeartbeats 4000000 in
theorem compact_any (g cap : Nat) (d : List PR) (w : World) (h : RowP g d w) (hc : d.length ≤ cap) (hl : d.length < 1152921504606846976) (h0 : d ≠ []) :
    Calls Try.prog 42 #[.slice (some ⟨g, 0, none⟩) d.length cap, .func (.func 43) #[] #[]] w fun e w' =>
      e = .returned (.slice (some ⟨g, 0, none⟩) (keptUpTo (kpC d.toArray) d.toArray d.length).length cap) ∧ RowP g (keptUpTo (kpC d.toArray) d.toArray d.length) w' ∧ Fr g w w' := by
  have HH := Lib.hid h
  have hpos : 0 < d.length := List.length_pos_iff.2 h0
  obtain ⟨A, hA⟩ : ∃ A, d.toArray = A := ⟨_, rfl⟩
  have hAs : A.size = d.length := by rw [← hA]; simp
  have hAl : A.toList = d := by rw [← hA]
  rw [hA]
  have HA := Lib.hid hAl
  clear h hA hAl h0
  by_cases h2 : d.length < 2
  · have h1 : d.length = 1 := by omega
    have hk : keptUpTo (kpC A) A 1 = d := by
      have : keptUpTo (kpC A) A 1 = [A[0]!] := by rw [keptUpTo_succ, kpC_true (.inl rfl)]; rfl
      rw [this, ← getD_bang A 0 (by omega), HA.out]
      match d, h1 with
      | [x], _ => rfl
    rw [h1, hk]
    clear hk
    rw [h1] at *
    go_enter Try.func42, Try.ntmps42
    go_wp2
    go_ret
    exact ⟨rfl, HH.out, Fr.refl _ _⟩
  · have h2i : ¬ ((d.length : Int) < 2) := by omega
    obtain ⟨res, hres⟩ : ∃ r, keptUpTo (kpC A) A d.length = r := ⟨_, rfl⟩
    have HR := Lib.hid hres
    rw [hres]
    clear hres
    go_enter Try.func42, Try.ntmps42
    go_wp2
    go_loopw [5] (fun vk wr => ∃ k : Nat, (1 ≤ k ∧ k ≤ d.length) ∧ vk = .int .i64 k ∧ Hid (Below w.heap.size w wr) ∧ Hid (∀ j, j < k → kpC A j = true)) (fun vk _ => d.length - (intOf vk).toNat)
    case atStart => exact ⟨1, ⟨Nat.le_refl _, by omega⟩, rfl, Lib.hid (Below.refl _ _), Lib.hid fun j hj => kpC_true (.inl (by omega))⟩
    case round =>
      obtain ⟨k, ⟨hk1, hk⟩, rfl, hB, hall⟩ := hrel
      by_cases hlt : k < d.length
      · obtain ⟨q, rfl⟩ : ∃ q, k = q + 1 := ⟨k - 1, by omega⟩
        have HRr := Lib.hid (HH.out.below hB.out)
        obtain ⟨x0, x1, x2, x3⟩ := HRr.out.cells hlt
        obtain ⟨y0, y1, y2, y3⟩ := HRr.out.cells (i := q) (by omega)
        have e1 : d.getD (q + 1) noP = A[q + 1]! := by rw [← HA.out]; exact getD_bang A _ (by omega)
        have e2 : d.getD q noP = A[q]! := by rw [← HA.out]; exact getD_bang A _ (by omega)
        have HE := Lib.hid (name_beq (d.getD (q + 1) noP) (d.getD q noP))
        have HK := Lib.hid (show (d.getD (q + 1) noP).n = (d.getD q noP).n ↔ A[q]!.n = A[q + 1]!.n by rw [e1, e2]; exact eq_comm)
        have HC := Lib.hid (fun W => eqP_any (d.getD (q + 1) noP) (d.getD q noP) W)
        clear e1 e2
        generalize d.getD (q + 1) noP = x at *
        generalize d.getD q noP = y at *
        simp only [pairV] at HC
        obtain ⟨bb, hbb⟩ : ∃ b, (x.n.toList == y.n.toList) = b := ⟨_, rfl⟩
        rw [hbb] at HC HE
        clear hbb
        have hwp : IntKind.i64.wrap (q : Int) = (q : Int) := by rw [IntKind.wrap_i64]; omega
        have hwp2 : IntKind.i64.wrap (((q + 1 : Nat) : Int) - 1) = (q : Int) := by rw [IntKind.wrap_i64]; omega
        have jz : (q : Int) + 1 < (d.length : Int) := by omega
        have jz1 : (q : Int) < (d.length : Int) := by omega
        have p0 : (0 : Int) ≤ (q : Int) + 1 := by omega
        have e0 : ((q : Int) + 1).toNat = q + 1 := by omega
        go_wp2
        go_cut [28] from 18 to 28 (fun v W => v = .bool bb ∧ Hid (Below wr.heap.size wr W))
        case first =>
          cases bb <;> (
            go_region_with (first
              | (go_at_call 43; refine (HC.out _).mono ?_; rintro e w2 ⟨rfl, hb2⟩; have HB2 := Lib.hid hb2; clear hb2)))
          all_goals
            go_wp2_with fail
            go_meet
            exact ⟨rfl, Lib.hid ((Below.refl _ _).drew.trans HB2.out)⟩
        case rest =>
        obtain ⟨rfl, HB2⟩ := hcut
        clear x0 x1 x2 x3 y0 y1 y2 y3 HC
        cases bb with
        | true =>
            have HD := Lib.hid (HK.out.1 (HE.out.1 rfl))
            have HFr := Lib.hid ((Fr.of_below (g := g) hB.out).trans (Fr.of_below HB2.out))
            have HRw := Lib.hid (HRr.out.below HB2.out)
            clear HE HK hB HB2 HRr
            have hjc : (q : Int) + 1 ≤ (cap : Int) := by omega
            go_wp2
            generalize hm2 : d.length - (q + 1) = m2
            generalize cap - (q + 1) = c2
            go_loopw [5, 7] (fun vk vk2 wr => ∃ (k k2 : Nat) (dk : Array PR), (1 ≤ k2 ∧ q + 1 + k2 ≤ d.length) ∧ vk = .int .i64 k ∧ vk2 = .int .i64 k2 ∧ Hid (KeptInv (kpC A) A (q + 1 + k2) k dk) ∧ Hid (RowP g dk.toList wr) ∧ Hid (Fr g w wr)) (fun _ vk2 _ => d.length - (intOf vk2).toNat)
            case atStart =>
              refine ⟨q + 1, 1, A, ⟨Nat.le_refl _, by omega⟩, by go_num, by go_num, Lib.hid (KeptInv.start hall.out (kpC_false ?_)), Lib.hid (by rw [HA.out]; exact HRw.out), HFr⟩
              rintro (h | h)
              · omega
              · exact h (by simpa using HD.out)
            case round =>
              obtain ⟨k, k2, dk, ⟨hk21, hk2⟩, rfl, rfl, hI, hRow, hF⟩ := hrel
              have hsz : dk.size = d.length := hI.out.size.trans hAs
              have hkm := hI.out.lt
              by_cases hlt2 : k2 < m2
              · obtain ⟨r, rfl⟩ : ∃ r, k2 = r + 1 := ⟨k2 - 1, by omega⟩
                have hlt3 : q + 1 + (r + 1) < d.length := by omega
                obtain ⟨x0, x1, x2, x3⟩ := hRow.out.cells (i := q + 1 + (r + 1)) (by simp; omega)
                obtain ⟨y0, y1, y2, y3⟩ := hRow.out.cells (i := q + 1 + r) (by simp; omega)
                have e1 : dk.toList.getD (q + 1 + (r + 1)) noP = A[q + 1 + (r + 1)]! := by rw [getD_bang dk _ (by omega)]; exact hI.out.high _ (by omega)
                have e2 : dk.toList.getD (q + 1 + r) noP = A[q + 1 + r]! := by rw [getD_bang dk _ (by omega)]; exact hI.out.high _ (by omega)
                rw [e1] at x0 x1 x2 x3
                rw [e2] at y0 y1 y2 y3
                have ea : (q + 1 + (r + 1)) * 4 = (q + 1) * 4 + (r + 1) * 4 := by omega
                have eb : (q + 1 + r) * 4 = (q + 1) * 4 + r * 4 := by omega
                rw [ea] at x0 x1 x2 x3
                rw [eb] at y0 y1 y2 y3
                have HE := Lib.hid (name_beq A[q + 1 + (r + 1)]! A[q + 1 + r]!)
                have HC := Lib.hid (fun W => eqP_any A[q + 1 + (r + 1)]! A[q + 1 + r]! W)
                have HKt := Lib.hid (fun (h : A[q + 1 + (r + 1)]!.n ≠ A[q + 1 + r]!.n) => hI.out.keep (by omega) (kpC_true (d := A) (j := q + 1 + (r + 1)) (.inr fun e => h (by simpa using e.symm))))
                have HKf := Lib.hid (fun (h : A[q + 1 + (r + 1)]!.n = A[q + 1 + r]!.n) => hI.out.skip (kpC_false (d := A) (j := q + 1 + (r + 1)) (by rintro (h' | h'); omega; exact h' (by simpa using h.symm))))
                have HX := Lib.hid (fun (W : World) (h : Below wr.heap.size wr W) => (hRow.out.below h).cells (i := q + 1 + (r + 1)) (by simp; omega))
                rw [e1, ea] at HX
                clear e1 e2 ea eb
                generalize A[q + 1 + (r + 1)]! = x' at *
                generalize A[q + 1 + r]! = y' at *
                simp only [pairV] at HC
                obtain ⟨bb, hbb⟩ : ∃ b, (x'.n.toList == y'.n.toList) = b := ⟨_, rfl⟩
                rw [hbb] at HC HE
                clear hbb
                have hwp3 : IntKind.i64.wrap (r : Int) = (r : Int) := by rw [IntKind.wrap_i64]; omega
                have hwp4 : IntKind.i64.wrap (((r + 1 : Nat) : Int) - 1) = (r : Int) := by rw [IntKind.wrap_i64]; omega
                have jz3 : (r : Int) + 1 < (m2 : Int) := by omega
                have jz4 : (r : Int) < (m2 : Int) := by omega
                have p3 : (0 : Int) ≤ (r : Int) + 1 := by omega
                have e3 : ((r : Int) + 1).toNat = r + 1 := by omega
                have kz : (k : Int) < (d.length : Int) := by omega
                go_wp2
                go_cut [49] from 38 to 49 (fun v W => v = .bool (!bb) ∧ Hid (Below wr.heap.size wr W))
                case first =>
                  cases bb <;> (
                    go_region_with (first
                      | (go_at_call 43; refine (HC.out _).mono ?_; rintro e w2 ⟨rfl, hb2⟩; have HB2 := Lib.hid hb2; clear hb2)))
                  all_goals
                    go_wp2_with fail
                    go_meet
                    exact ⟨rfl, Lib.hid ((Below.refl _ _).drew.trans HB2.out)⟩
                case rest =>
                obtain ⟨rfl, HB2⟩ := hcut
                clear x0 x1 x2 x3 y0 y1 y2 y3 HC
                have HRw2 := Lib.hid (hRow.out.below HB2.out)
                have HFr2 := Lib.hid (hF.out.trans (Fr.of_below HB2.out))
                cases bb with
                | true =>
                  have HQ := Lib.hid (HE.out.1 rfl)
                  go_wp2
                  go_roundw
                  case rel => exact ⟨k, r + 1 + 1, dk, ⟨by omega, by omega⟩, rfl, by go_num, Lib.hid (HKf.out HQ.out), HRw2, HFr2⟩
                  case measure => simp [intOf]; omega
                | false =>
                  have HQ : Hid (x'.n ≠ y'.n) := Lib.hid (fun h => Bool.noConfusion (HE.out.2 h))
                  obtain ⟨x0, x1, x2, x3⟩ := HX.out _ HB2.out
                  obtain ⟨o0, o1, o2, o3⟩ := HRw2.out.cells (i := k) (by simp; omega)
                  have z0 := HRw2.out.free (k * 4)
                  have z1 := HRw2.out.free (k * 4 + 1)
                  have z2 := HRw2.out.free (k * 4 + 2)
                  have z3 := HRw2.out.free (k * 4 + 3)
                  clear HB2
                  go_wp2
                  go_roundw
                  case rel => exact ⟨k + 1, r + 1 + 1, dk.setIfInBounds k x', ⟨by omega, by omega⟩, by go_num, by go_num, Lib.hid (HKt.out HQ.out), Lib.hid ((HRw2.out.set k x').of_eq (by simp)), Lib.hid (HFr2.out.trans (Fr.set4 g k _ x'))⟩
                  case measure => simp [intOf]; omega
              · have hm : q + 1 + k2 = d.length := by omega
                obtain rfl : k2 = m2 := by omega
                have hcl : ∀ ty c, (Builtin.clear_ #[28] ty #[.slice (some ⟨g, k * 4, none⟩) (d.length - k) c]).run Try.prog wr = .ok (.tuple #[]) (wr.setCells g (k * 4) (Builtin.zeroCells zeroP (d.length - k)).toList) := fun ty c => by
                  have := run_clear wr g k dk.toList hRow.out (by simp; omega) c ty
                  rwa [show dk.toList.length = d.length by simpa using hsz] at this
                have hlow := hI.out.low
                have hlen := hI.out.len
                rw [hm, HR.out] at hlow hlen
                have HT : Hid (dk.toList.take k = res) := Lib.hid (by
                  apply List.ext_getElem?
                  intro j
                  by_cases hj : j < k
                  · rw [hlow j hj, List.getElem?_take_of_lt hj, ← getD_bang dk j (by omega)]
                    simp [List.getD, show j < dk.size by omega]
                  · rw [List.getElem?_eq_none (by simp; omega), List.getElem?_eq_none (by omega)])
                have HL := Lib.hid hlen
                have kz : (k : Int) ≤ (d.length : Int) := by omega
                have kz2 : (k : Int) ≤ (cap : Int) := by omega
                clear hlow hlen HR
                go_wp2
                go_ret
                exact ⟨by rw [HL.out]; rfl, (hRow.out.setCells k (by simp; omega) _).of_eq HT.out, hF.out.trans (Fr.setCells g _ _ _)⟩
        | false =>
          have HQ : Hid (¬ (A[q]!.n = A[q + 1]!.n)) := Lib.hid (fun h => Bool.noConfusion (HE.out.2 (HK.out.2 h)))
          go_wp2
          go_roundw
          case rel =>
            refine ⟨q + 1 + 1, ⟨by omega, by omega⟩, by go_num, Lib.hid (hB.out.trans (HB2.out.mono hB.out.size)), Lib.hid fun j hj => ?_⟩
            by_cases e : j = q + 1
            · subst e; exact kpC_true (.inr (by simpa using HQ.out))
            · exact hall.out j (by omega)
          case measure => simp [intOf]; omega
      · obtain rfl : k = d.length := by omega
        have hres : res = d := by
          rw [← HR.out, keptUpTo_all _ _ _ hall.out, ← hAs, range_map_get, HA.out]
        subst hres
        clear HR
        go_wp2
        go_ret
        exact ⟨rfl, HH.out.below hB.out, Fr.of_below hB.out⟩
end Go.Proofs.Ytmbaolcdjgilpaa
