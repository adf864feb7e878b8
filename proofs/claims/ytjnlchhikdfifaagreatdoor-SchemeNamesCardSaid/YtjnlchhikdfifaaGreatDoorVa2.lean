/- Merged: SbCompact, SbDelete, SbGather, SbFind, SbApply, SbApp, SbOf, SbRen, Make, MakeType, MakeStep, MakeAll, SbSize, SbFirst, RegInv. -/
import Derived.Test.YtjnlchhikdfifaaGreatDoorVa1
import Derived.Shelf.SlicesE.Clone
import Derived.Deep.RegionHeld3
import Derived.Deep.DrawnRows
import Derived.BigRegion
import Derived.Deep.RegionHeld
import Derived.Test.YtjnlchhikdfifaaGreatDoorProg
/- slices.CompactFunc of a row of pairs. -/
namespace Go.Proofs.YtjnlchhikdfifaaGreatDoor
open Go.RowKit Go.Sort Go.Lib
attribute [local go_sem] Oper.semAt_some

theorem name_beq (x y : PR) : (x.n.toList == y.n.toList) = true ↔ x.n = y.n := by
  rw [bytes_beq]; exact eqB_iff
theorem getD_bang (d : Array PR) (i : Nat) (h : i < d.size) : d.toList.getD i noP = d[i]! := by rw [bang d i h]; simp [List.getD, h]
theorem getD_list (l : List PR) (i : Nat) (h : i < l.length) : l.getD i noP = l.toArray[i]! := by have := getD_bang l.toArray i (by simpa using h); simpa using this

set_option maxRecDepth 100000 in
set_option maxHeartbeats 4000000 in
theorem compact_any (g cap : Nat) (d : List PR) (w : World) (h : RowP g d w) (hc : d.length ≤ cap) (hl : d.length < 1152921504606846976) (h0 : d ≠ []) :
    Calls Tryz.prog 102 #[.slice (some ⟨g, 0, none⟩) d.length cap, .func (.func 103) #[] #[]] w fun e w' =>
      e = .returned (.slice (some ⟨g, 0, none⟩) (keptUpTo (kpC d.toArray) d.toArray d.length).length cap) ∧ RowP g (keptUpTo (kpC d.toArray) d.toArray d.length) w' ∧ Fr g w w' := by
  have HH := Lib.hid h
  have hpos : 0 < d.length := List.length_pos_iff.2 h0
  obtain ⟨A, hA⟩ : ∃ A, d.toArray = A := ⟨_, rfl⟩
  have hAs : A.size = d.length := by rw [← hA]; simp
  have hAl : A.toList = d := by rw [← hA]
  rw [hA]
  have HA := Lib.hid hAl
  clear h hA hAl h0
  by_cases h2 : d.length < 2
  · have h1 : d.length = 1 := by omega
    have hk : keptUpTo (kpC A) A 1 = d := by
      have : keptUpTo (kpC A) A 1 = [A[0]!] := by rw [keptUpTo_succ, kpC_true (.inl rfl)]; rfl
      rw [this, ← getD_bang A 0 (by omega), HA.out]
      match d, h1 with
      | [x], _ => rfl
    rw [h1, hk]
    clear hk
    rw [h1] at *
    go_enter Tryz.func102, Tryz.ntmps102
    go_wp2
    go_ret
    exact ⟨rfl, HH.out, Fr.refl _ _⟩
  · have h2i : ¬ ((d.length : Int) < 2) := by omega
    obtain ⟨res, hres⟩ : ∃ r, keptUpTo (kpC A) A d.length = r := ⟨_, rfl⟩
    have HR := Lib.hid hres
    rw [hres]
    clear hres
    go_enter Tryz.func102, Tryz.ntmps102
    go_wp2
    go_loopw [5] (fun vk wr => ∃ k : Nat, (1 ≤ k ∧ k ≤ d.length) ∧ vk = .int .i64 k ∧ Hid (Below w.heap.size w wr) ∧ Hid (∀ j, j < k → kpC A j = true)) (fun vk _ => d.length - (intOf vk).toNat)
    case atStart => exact ⟨1, ⟨Nat.le_refl _, by omega⟩, rfl, Lib.hid (Below.refl _ _), Lib.hid fun j hj => kpC_true (.inl (by omega))⟩
    case round =>
      obtain ⟨k, ⟨hk1, hk⟩, rfl, hB, hall⟩ := hrel
      by_cases hlt : k < d.length
      · obtain ⟨q, rfl⟩ : ∃ q, k = q + 1 := ⟨k - 1, by omega⟩
        have HRr := Lib.hid (HH.out.below hB.out)
        obtain ⟨x0, x1, x2, x3⟩ := HRr.out.cells hlt
        obtain ⟨y0, y1, y2, y3⟩ := HRr.out.cells (i := q) (by omega)
        have e1 : d.getD (q + 1) noP = A[q + 1]! := by rw [← HA.out]; exact getD_bang A _ (by omega)
        have e2 : d.getD q noP = A[q]! := by rw [← HA.out]; exact getD_bang A _ (by omega)
        have HE := Lib.hid (name_beq (d.getD (q + 1) noP) (d.getD q noP))
        have HK := Lib.hid (show (d.getD (q + 1) noP).n = (d.getD q noP).n ↔ A[q]!.n = A[q + 1]!.n by rw [e1, e2]; exact eq_comm)
        have HC := Lib.hid (fun W => eqP_any (d.getD (q + 1) noP) (d.getD q noP) W)
        clear e1 e2
        generalize d.getD (q + 1) noP = x at *
        generalize d.getD q noP = y at *
        simp only [pairV] at HC
        obtain ⟨bb, hbb⟩ : ∃ b, (x.n.toList == y.n.toList) = b := ⟨_, rfl⟩
        rw [hbb] at HC HE
        clear hbb
        have hwp : IntKind.i64.wrap (q : Int) = (q : Int) := by rw [IntKind.wrap_i64]; omega
        have hwp2 : IntKind.i64.wrap (((q + 1 : Nat) : Int) - 1) = (q : Int) := by rw [IntKind.wrap_i64]; omega
        have jz : (q : Int) + 1 < (d.length : Int) := by omega
        have jz1 : (q : Int) < (d.length : Int) := by omega
        have p0 : (0 : Int) ≤ (q : Int) + 1 := by omega
        have e0 : ((q : Int) + 1).toNat = q + 1 := by omega
        go_wp2
        go_cut [28] from 18 to 28 (fun v W => v = .bool bb ∧ Hid (Below wr.heap.size wr W))
        case first =>
          cases bb <;> (
            go_region_with (first
              | (go_at_call 103; refine (HC.out _).mono ?_; rintro e w2 ⟨rfl, hb2⟩; have HB2 := Lib.hid hb2; clear hb2)))
          all_goals
            go_wp2_with fail
            go_meet
            exact ⟨rfl, Lib.hid ((Below.refl _ _).drew.trans HB2.out)⟩
        case rest =>
        obtain ⟨rfl, HB2⟩ := hcut
        clear x0 x1 x2 x3 y0 y1 y2 y3 HC
        cases bb with
        | true =>
            have HD := Lib.hid (HK.out.1 (HE.out.1 rfl))
            have HFr := Lib.hid ((Fr.of_below (g := g) hB.out).trans (Fr.of_below HB2.out))
            have HRw := Lib.hid (HRr.out.below HB2.out)
            clear HE HK hB HB2 HRr
            have hjc : (q : Int) + 1 ≤ (cap : Int) := by omega
            go_wp2
            generalize hm2 : d.length - (q + 1) = m2
            generalize cap - (q + 1) = c2
            go_loopw [5, 7] (fun vk vk2 wr => ∃ (k k2 : Nat) (dk : Array PR), (1 ≤ k2 ∧ q + 1 + k2 ≤ d.length) ∧ vk = .int .i64 k ∧ vk2 = .int .i64 k2 ∧ Hid (KeptInv (kpC A) A (q + 1 + k2) k dk) ∧ Hid (RowP g dk.toList wr) ∧ Hid (Fr g w wr)) (fun _ vk2 _ => d.length - (intOf vk2).toNat)
            case atStart =>
              refine ⟨q + 1, 1, A, ⟨Nat.le_refl _, by omega⟩, by go_num, by go_num, Lib.hid (KeptInv.start hall.out (kpC_false ?_)), Lib.hid (by rw [HA.out]; exact HRw.out), HFr⟩
              rintro (h | h)
              · omega
              · exact h (by simpa using HD.out)
            case round =>
              obtain ⟨k, k2, dk, ⟨hk21, hk2⟩, rfl, rfl, hI, hRow, hF⟩ := hrel
              have hsz : dk.size = d.length := hI.out.size.trans hAs
              have hkm := hI.out.lt
              by_cases hlt2 : k2 < m2
              · obtain ⟨r, rfl⟩ : ∃ r, k2 = r + 1 := ⟨k2 - 1, by omega⟩
                have hlt3 : q + 1 + (r + 1) < d.length := by omega
                obtain ⟨x0, x1, x2, x3⟩ := hRow.out.cells (i := q + 1 + (r + 1)) (by simp; omega)
                obtain ⟨y0, y1, y2, y3⟩ := hRow.out.cells (i := q + 1 + r) (by simp; omega)
                have e1 : dk.toList.getD (q + 1 + (r + 1)) noP = A[q + 1 + (r + 1)]! := by rw [getD_bang dk _ (by omega)]; exact hI.out.high _ (by omega)
                have e2 : dk.toList.getD (q + 1 + r) noP = A[q + 1 + r]! := by rw [getD_bang dk _ (by omega)]; exact hI.out.high _ (by omega)
                rw [e1] at x0 x1 x2 x3
                rw [e2] at y0 y1 y2 y3
                have ea : (q + 1 + (r + 1)) * 4 = (q + 1) * 4 + (r + 1) * 4 := by omega
                have eb : (q + 1 + r) * 4 = (q + 1) * 4 + r * 4 := by omega
                rw [ea] at x0 x1 x2 x3
                rw [eb] at y0 y1 y2 y3
                have HE := Lib.hid (name_beq A[q + 1 + (r + 1)]! A[q + 1 + r]!)
                have HC := Lib.hid (fun W => eqP_any A[q + 1 + (r + 1)]! A[q + 1 + r]! W)
                have HKt := Lib.hid (fun (h : A[q + 1 + (r + 1)]!.n ≠ A[q + 1 + r]!.n) => hI.out.keep (by omega) (kpC_true (d := A) (j := q + 1 + (r + 1)) (.inr fun e => h (by simpa using e.symm))))
                have HKf := Lib.hid (fun (h : A[q + 1 + (r + 1)]!.n = A[q + 1 + r]!.n) => hI.out.skip (kpC_false (d := A) (j := q + 1 + (r + 1)) (by rintro (h' | h'); omega; exact h' (by simpa using h.symm))))
                have HX := Lib.hid (fun (W : World) (h : Below wr.heap.size wr W) => (hRow.out.below h).cells (i := q + 1 + (r + 1)) (by simp; omega))
                rw [e1, ea] at HX
                clear e1 e2 ea eb
                generalize A[q + 1 + (r + 1)]! = x' at *
                generalize A[q + 1 + r]! = y' at *
                simp only [pairV] at HC
                obtain ⟨bb, hbb⟩ : ∃ b, (x'.n.toList == y'.n.toList) = b := ⟨_, rfl⟩
                rw [hbb] at HC HE
                clear hbb
                have hwp3 : IntKind.i64.wrap (r : Int) = (r : Int) := by rw [IntKind.wrap_i64]; omega
                have hwp4 : IntKind.i64.wrap (((r + 1 : Nat) : Int) - 1) = (r : Int) := by rw [IntKind.wrap_i64]; omega
                have jz3 : (r : Int) + 1 < (m2 : Int) := by omega
                have jz4 : (r : Int) < (m2 : Int) := by omega
                have p3 : (0 : Int) ≤ (r : Int) + 1 := by omega
                have e3 : ((r : Int) + 1).toNat = r + 1 := by omega
                have kz : (k : Int) < (d.length : Int) := by omega
                go_wp2
                go_cut [49] from 38 to 49 (fun v W => v = .bool (!bb) ∧ Hid (Below wr.heap.size wr W))
                case first =>
                  cases bb <;> (
                    go_region_with (first
                      | (go_at_call 103; refine (HC.out _).mono ?_; rintro e w2 ⟨rfl, hb2⟩; have HB2 := Lib.hid hb2; clear hb2)))
                  all_goals
                    go_wp2_with fail
                    go_meet
                    exact ⟨rfl, Lib.hid ((Below.refl _ _).drew.trans HB2.out)⟩
                case rest =>
                obtain ⟨rfl, HB2⟩ := hcut
                clear x0 x1 x2 x3 y0 y1 y2 y3 HC
                have HRw2 := Lib.hid (hRow.out.below HB2.out)
                have HFr2 := Lib.hid (hF.out.trans (Fr.of_below HB2.out))
                cases bb with
                | true =>
                  have HQ := Lib.hid (HE.out.1 rfl)
                  go_wp2
                  go_roundw
                  case rel => exact ⟨k, r + 1 + 1, dk, ⟨by omega, by omega⟩, rfl, by go_num, Lib.hid (HKf.out HQ.out), HRw2, HFr2⟩
                  case measure => simp [intOf]; omega
                | false =>
                  have HQ : Hid (x'.n ≠ y'.n) := Lib.hid (fun h => Bool.noConfusion (HE.out.2 h))
                  obtain ⟨x0, x1, x2, x3⟩ := HX.out _ HB2.out
                  obtain ⟨o0, o1, o2, o3⟩ := HRw2.out.cells (i := k) (by simp; omega)
                  have z0 := HRw2.out.free (k * 4)
                  have z1 := HRw2.out.free (k * 4 + 1)
                  have z2 := HRw2.out.free (k * 4 + 2)
                  have z3 := HRw2.out.free (k * 4 + 3)
                  clear HB2
                  go_wp2
                  go_roundw
                  case rel => exact ⟨k + 1, r + 1 + 1, dk.setIfInBounds k x', ⟨by omega, by omega⟩, by go_num, by go_num, Lib.hid (HKt.out HQ.out), Lib.hid ((HRw2.out.set k x').of_eq (by simp)), Lib.hid (HFr2.out.trans (Fr.set4 g k _ x'))⟩
                  case measure => simp [intOf]; omega
              · have hm : q + 1 + k2 = d.length := by omega
                obtain rfl : k2 = m2 := by omega
                have hcl : ∀ ty c, (Builtin.clear_ #[71] ty #[.slice (some ⟨g, k * 4, none⟩) (d.length - k) c]).run Tryz.prog wr = .ok (.tuple #[]) (wr.setCells g (k * 4) (Builtin.zeroCells zeroP (d.length - k)).toList) := fun ty c => by
                  have := run_clear wr g k dk.toList hRow.out (by simp; omega) c ty
                  rwa [show dk.toList.length = d.length by simpa using hsz] at this
                have hlow := hI.out.low
                have hlen := hI.out.len
                rw [hm, HR.out] at hlow hlen
                have HT : Hid (dk.toList.take k = res) := Lib.hid (by
                  apply List.ext_getElem?
                  intro j
                  by_cases hj : j < k
                  · rw [hlow j hj, List.getElem?_take_of_lt hj, ← getD_bang dk j (by omega)]
                    simp [List.getD, show j < dk.size by omega]
                  · rw [List.getElem?_eq_none (by simp; omega), List.getElem?_eq_none (by omega)])
                have HL := Lib.hid hlen
                have kz : (k : Int) ≤ (d.length : Int) := by omega
                have kz2 : (k : Int) ≤ (cap : Int) := by omega
                clear hlow hlen HR
                go_wp2
                go_ret
                exact ⟨by rw [HL.out]; rfl, (hRow.out.setCells k (by simp; omega) _).of_eq HT.out, hF.out.trans (Fr.setCells g _ _ _)⟩
        | false =>
          have HQ : Hid (¬ (A[q]!.n = A[q + 1]!.n)) := Lib.hid (fun h => Bool.noConfusion (HE.out.2 (HK.out.2 h)))
          go_wp2
          go_roundw
          case rel =>
            refine ⟨q + 1 + 1, ⟨by omega, by omega⟩, by go_num, Lib.hid (hB.out.trans (HB2.out.mono hB.out.size)), Lib.hid fun j hj => ?_⟩
            by_cases e : j = q + 1
            · subst e; exact kpC_true (.inr (by simpa using HQ.out))
            · exact hall.out j (by omega)
          case measure => simp [intOf]; omega
      · obtain rfl : k = d.length := by omega
        have hres : res = d := by
          rw [← HR.out, keptUpTo_all _ _ _ hall.out, ← hAs, range_map_get, HA.out]
        subst hres
        clear HR
        go_wp2
        go_ret
        exact ⟨rfl, HH.out.below hB.out, Fr.of_below hB.out⟩
end Go.Proofs.YtjnlchhikdfifaaGreatDoor
/- slices.DeleteFunc of a row of pairs: those that are their own type go. -/
namespace Go.Proofs.YtjnlchhikdfifaaGreatDoor
open Go.RowKit Go.Sort Go.Lib
attribute [local go_sem] Oper.semAt_some

set_option maxRecDepth 100000 in
set_option maxHeartbeats 1000000 in
theorem tvar_any (n : ByteArray) (w : World) :
    Calls Tryz.prog 60 #[.string n] w fun e w' => (∃ u, e = .returned (tyV (.var n) u) ∧ TysAt w' u []) ∧ Below w.heap.size w w' := by
  go_enter Tryz.func60, Tryz.ntmps60
  go_wp2
  refine bodyPost_ret (v := tyV (.var n) (.slice none 0 0)) (by simp [results, Tryz.results60, go_sem, tyV, T.kind, T.name]) rfl ⟨⟨_, rfl, TysAt.nil _ _ _⟩, (Below.refl _ w).alloc (Nat.le_refl _) _⟩
theorem four_cells {w : World} {p : Nat} {x y z u : Value} {T : TypeId} {fz : Nat × Nat} (h : w.heap[p]? = some (.cells #[x, y, z, u] T fz)) : w.cell? ⟨p, 0, none⟩ = some x ∧ w.cell? ⟨p, 1, none⟩ = some y ∧ w.cell? ⟨p, 2, none⟩ = some z ∧ w.cell? ⟨p, 3, none⟩ = some u := by
  refine ⟨?_, ?_, ?_, ?_⟩ <;> (rw [Lib.cell_of_heap h]; rfl)

theorem ownP_eq (x : PR) : (cmpT x.t (.var x.n) == 0) = ownP x := by
  rw [Bool.eq_iff_iff, ownP_iff, beq_iff_eq]; exact cmp_zero _ _

set_option maxRecDepth 100000 in
set_option maxHeartbeats 2000000 in
theorem isOwn_any (x : PR) (w : World) (hf : Fits x.t) (h : TysAt w (.slice x.a x.t.kids.length x.c) x.t.kids) :
    Calls Tryz.prog 105 #[pairV x] w fun e w' => e = .returned (.bool (ownP x)) ∧ Below w.heap.size w w' := by
  have HS := Lib.hid (fun (u : Value) (W : World) (k : KeepT w W) (hu : TysAt W u []) => same_any (t' := .var x.n) (v' := u) (w := W) hf (h.keep k) hu)
  simp only [ownP_eq] at HS
  generalize ownP x = r at *
  have HV := Lib.hid (fun W => tvar_any x.n W)
  have HB := Lib.hid (show ∀ o1 : Obj, Below w.heap.size w (w.alloc o1) from fun o1 => (Below.refl _ w).alloc (Nat.le_refl _) _)
  clear h hf
  simp only [pairV, tyV] at HS ⊢
  go_enter Tryz.func105, Tryz.ntmps105
  go_wp2
  go_region_with (first
    | (go_at_call 60; refine (HV.out _).mono ?_; rintro e w2 ⟨⟨u, rfl, hu⟩, hb2⟩; obtain ⟨b0, b1, b2, b3⟩ := four_cells ((hb2.block w.heap.size (by simp)).trans (alloc_new w _)); have HU := Lib.hid hu; have HB2 := Lib.hid ((HB.out _).drew.trans (hb2.mono (by simp))); clear hu hb2; simp only [tyV])
    | (go_at_call 52; refine (HS.out _ _ ?kk HU.out).mono ?_; (case kk => exact KeepT.of_below HB2.out); rintro e w3 ⟨rfl, hb3⟩; have HB3 := Lib.hid (HB2.out.trans (hb3.mono HB2.out.size)); clear hb3))
  all_goals go_wp2
  all_goals go_ret
  all_goals exact ⟨rfl, HB3.out⟩

/-- Each type's lists are no longer than any memory. -/
def FitsAll (d : List PR) : Prop := ∀ x ∈ d, Fits x.t
theorem getD_mem {d : List PR} {i : Nat} (h : i < d.length) : d.getD i noP ∈ d := by
  have : d.getD i noP = d[i] := by simp [List.getD, h]
  rw [this]; exact List.getElem_mem h

set_option maxRecDepth 100000 in
set_option maxHeartbeats 2000000 in
theorem index_any (g cap : Nat) (d : List PR) (w : World) (h : RowP g d w) (ht : Typ d w) (hf : FitsAll d) (hl : d.length < 1152921504606846976) :
    Calls Tryz.prog 117 #[.slice (some ⟨g, 0, none⟩) d.length cap, .func (.func 105) #[] #[]] w fun e w' =>
      (∃ r : Int, e = .returned (.int .i64 r) ∧ ((r = -1 ∧ ∀ j, j < d.length → ownP (d.getD j noP) = false) ∨ ∃ k : Nat, r = k ∧ k < d.length ∧ ownP (d.getD k noP) = true ∧ ∀ j, j < k → ownP (d.getD j noP) = false)) ∧ Below w.heap.size w w' := by
  have HH := Lib.hid h; have HT := Lib.hid ht; have HF := Lib.hid hf
  clear h ht hf
  go_enter Tryz.func117, Tryz.ntmps117
  go_wp2
  go_loopw [8] (fun vk wr => ∃ k : Nat, k ≤ d.length ∧ vk = .int .i64 k ∧ Hid (Below w.heap.size w wr) ∧ Hid (∀ j, j < k → ownP (d.getD j noP) = false)) (fun vk _ => d.length - (intOf vk).toNat)
  case atStart => exact ⟨0, Nat.zero_le _, rfl, Lib.hid (Below.refl _ _), Lib.hid fun j hj => absurd hj (Nat.not_lt_zero _)⟩
  case round =>
    obtain ⟨k, hk, rfl, hB, hall⟩ := hrel
    by_cases hlt : k < d.length
    · obtain ⟨x0, x1, x2, x3⟩ := (HH.out.below hB.out).cells hlt
      have HC := Lib.hid (isOwn_any (d.getD k noP) wr (HF.out _ (getD_mem hlt)) ((HT.out _ (getD_mem hlt)).keep (KeepT.of_below hB.out)))
      obtain ⟨bb, hbb⟩ : ∃ b, ownP (d.getD k noP) = b := ⟨_, rfl⟩
      have HO := Lib.hid hbb
      rw [hbb] at HC
      clear hbb
      generalize d.getD k noP = x at x0 x1 x2 x3 HC
      simp only [pairV] at HC
      cases bb with
      | true =>
        go_wp2_with (go_at_call 105; refine HC.out.mono ?_)
        rintro e w2 ⟨rfl, hb2⟩
        have HB2 := Lib.hid (hB.out.trans (hb2.mono hB.out.size))
        clear hb2
        go_wp2
        go_ret
        exact ⟨⟨_, rfl, .inr ⟨k, rfl, hlt, HO.out, hall.out⟩⟩, HB2.out⟩
      | false =>
        go_wp2_with (go_at_call 105; refine HC.out.mono ?_)
        rintro e w2 ⟨rfl, hb2⟩
        have HB2 := Lib.hid (hB.out.trans (hb2.mono hB.out.size))
        clear hb2
        go_wp2
        refine ⟨⟨k + 1, by omega, by go_num, HB2, Lib.hid fun j hj => ?_⟩, by simp [intOf]; omega⟩
        by_cases e : j = k
        · subst e; exact HO.out
        · exact hall.out j (by omega)
    · obtain rfl : k = d.length := by omega
      go_wp2
      go_ret
      exact ⟨⟨_, rfl, .inl ⟨rfl, hall.out⟩⟩, hB.out⟩

set_option maxRecDepth 100000 in
set_option maxHeartbeats 4000000 in
theorem delete_any (g cap : Nat) (d : List PR) (w : World) (h : RowP g d w) (ht : Typ d w) (hf : FitsAll d) (hc : d.length ≤ cap) (hl : d.length < 1152921504606846976) :
    Calls Tryz.prog 104 #[.slice (some ⟨g, 0, none⟩) d.length cap, .func (.func 105) #[] #[]] w fun e w' =>
      e = .returned (.slice (some ⟨g, 0, none⟩) (d.filter fun x => !ownP x).length cap) ∧ RowP g (d.filter fun x => !ownP x) w' ∧ Fr g w w' := by
  have HH := Lib.hid h; have HT := Lib.hid ht; have HF := Lib.hid hf
  have HI := Lib.hid (index_any g cap d w h ht hf hl)
  obtain ⟨A, hA⟩ : ∃ A, d.toArray = A := ⟨_, rfl⟩
  have hAs : A.size = d.length := by rw [← hA]; simp
  have hAl : A.toList = d := by rw [← hA]
  have HA := Lib.hid hAl
  obtain ⟨kp, HK⟩ : ∃ kp : Nat → Bool, Hid (kp = fun j => !ownP A[j]!) := ⟨_, rfl⟩
  have hfil : (d.filter fun x => !ownP x) = keptUpTo kp A d.length := by rw [HK.out, ← hAs, ← hAl]; exact (keptUpTo_filter (fun x => !ownP x) A).symm
  rw [hfil]
  obtain ⟨res, hres⟩ : ∃ r, keptUpTo kp A d.length = r := ⟨_, rfl⟩
  have HR := Lib.hid hres
  rw [hres]
  have hg : ∀ j, j < d.length → d.getD j noP = A[j]! := fun j hj => by rw [← hAl]; exact getD_bang A j (by omega)
  have HG := Lib.hid hg
  clear h ht hf hA hAl hfil hres hg
  go_enter Tryz.func104, Tryz.ntmps104
  go_wp2_with (go_at_call 117; refine HI.out.mono ?_)
  rintro e w1 ⟨⟨r, rfl, ⟨rfl, hall⟩ | ⟨k0, rfl, hk0, hown, hall⟩⟩, hb1⟩
  · have hres : res = d := by
      rw [← HR.out, keptUpTo_all _ _ _ (fun j hj => by rw [HK.out]; show (!ownP A[j]!) = true; rw [← HG.out j hj, hall j hj]; rfl), ← hAs, range_map_get, HA.out]
    subst hres
    have HB := Lib.hid hb1
    clear HR hall hb1
    go_wp2
    go_ret
    exact ⟨rfl, HH.out.below HB.out, Fr.of_below HB.out⟩
  · have hkeep : ∀ j, j < k0 → kp j = true := fun j hj => by rw [HK.out]; show (!ownP A[j]!) = true; rw [← HG.out j (by omega), hall j hj]; rfl
    have hdrop : kp k0 = false := by rw [HK.out]; show (!ownP A[k0]!) = false; rw [← HG.out k0 hk0, hown]; rfl
    have HS : Hid (KeptInv kp A (k0 + 1) k0 A) := Lib.hid (KeptInv.start hkeep hdrop)
    have HB := Lib.hid hb1
    have hne1 : ((k0 : Int) == -1) = false := beq_eq_false_iff_ne.2 (by omega)
    clear hkeep hdrop hall hown hb1
    go_wp2
    go_loopw [5, 6] (fun vk vk2 wr => ∃ (k m : Nat) (dk : Array PR), m ≤ d.length ∧ vk = .int .i64 k ∧ vk2 = .int .i64 m ∧ Hid (KeptInv kp A m k dk) ∧ Hid (RowP g dk.toList wr) ∧ Hid (Fr g w wr)) (fun _ vk2 _ => d.length - (intOf vk2).toNat)
    case atStart => exact ⟨k0, k0 + 1, A, by omega, by go_num, by go_num, HS, Lib.hid (by rw [HA.out]; exact HH.out.below HB.out), Lib.hid (Fr.of_below HB.out)⟩
    case round =>
      obtain ⟨k, m, dk, hm, rfl, rfl, hI, hRow, hF⟩ := hrel
      have hsz : dk.size = d.length := hI.out.size.trans hAs
      have hkm := hI.out.lt
      by_cases hlt : m < d.length
      · obtain ⟨x0, x1, x2, x3⟩ := hRow.out.cells (i := m) (by simp; omega)
        have e1 : dk.toList.getD m noP = d.getD m noP := by rw [getD_bang dk _ (by omega), HG.out m hlt]; exact hI.out.high _ (by omega)
        rw [e1] at x0 x1 x2 x3
        have hmem := getD_mem hlt
        have HC := Lib.hid (fun o => isOwn_any (d.getD m noP) (wr.alloc o) (HF.out _ hmem) ((HT.out _ hmem).keep ((hF.out.keepT HH.out).trans (keepT_alloc wr o))))
        have HKt := Lib.hid (fun (h : ownP (d.getD m noP) = false) => hI.out.keep (by omega) (by rw [HK.out]; show (!ownP A[m]!) = true; rw [← HG.out m hlt, h]; rfl))
        have HKf := Lib.hid (fun (h : ownP (d.getD m noP) = true) => hI.out.skip (by rw [HK.out]; show (!ownP A[m]!) = false; rw [← HG.out m hlt, h]; rfl))
        rw [← HG.out m hlt] at HKt
        clear e1 hmem
        obtain ⟨bb, hbb⟩ : ∃ b, ownP (d.getD m noP) = b := ⟨_, rfl⟩
        have HO := Lib.hid hbb
        rw [hbb] at HC
        clear hbb
        generalize d.getD m noP = x at *
        simp only [pairV] at HC
        have kz : (k : Int) < (d.length : Int) := by omega
        go_wp2_with (go_at_call 105; refine (HC.out _).mono ?_)
        rintro e w2 ⟨rfl, hb2⟩
        have bx := (hb2.block wr.heap.size (by simp)).trans (alloc_new wr _)
        obtain ⟨y0, y1, y2, y3⟩ := four_cells bx
        have HB2 := Lib.hid (((Below.refl _ wr).alloc (Nat.le_refl _) (.cells #[.string x.n, .int .i64 x.t.kind, .string x.t.name, .slice x.a x.t.kids.length x.c] 90)).trans (hb2.mono (by simp)))
        have HRw2 := Lib.hid (hRow.out.below HB2.out)
        have HFr2 := Lib.hid (hF.out.trans (Fr.of_below HB2.out))
        clear x0 x1 x2 x3 HC hb2 bx
        cases bb with
        | true =>
          clear y0 y1 y2 y3
          go_wp2
          go_roundw
          case rel => exact ⟨k, m + 1, dk, by omega, rfl, by go_num, Lib.hid (HKf.out HO.out), HRw2, HFr2⟩
          case measure => simp [intOf]; omega
        | false =>
          obtain ⟨o0, o1, o2, o3⟩ := HRw2.out.cells (i := k) (by simp; omega)
          have z0 := HRw2.out.free (k * 4)
          have z1 := HRw2.out.free (k * 4 + 1)
          have z2 := HRw2.out.free (k * 4 + 2)
          have z3 := HRw2.out.free (k * 4 + 3)
          clear HB2
          go_wp2
          go_roundw
          case rel => exact ⟨k + 1, m + 1, dk.setIfInBounds k x, by omega, by go_num, by go_num, Lib.hid (HKt.out HO.out), Lib.hid ((HRw2.out.set k x).of_eq (by simp)), Lib.hid (HFr2.out.trans (Fr.set4 g k _ x))⟩
          case measure => simp [intOf]; omega
      · obtain rfl : m = d.length := by omega
        have hcl : ∀ ty c, (Builtin.clear_ #[71] ty #[.slice (some ⟨g, k * 4, none⟩) (d.length - k) c]).run Tryz.prog wr = .ok (.tuple #[]) (wr.setCells g (k * 4) (Builtin.zeroCells zeroP (d.length - k)).toList) := fun ty c => by
          have := run_clear wr g k dk.toList hRow.out (by simp; omega) c ty
          rwa [show dk.toList.length = d.length by simpa using hsz] at this
        have hlow := hI.out.low
        have hlen := hI.out.len
        rw [HR.out] at hlow hlen
        have HTk : Hid (dk.toList.take k = res) := Lib.hid (by
          apply List.ext_getElem?
          intro j
          by_cases hj : j < k
          · rw [hlow j hj, List.getElem?_take_of_lt hj, ← getD_bang dk j (by omega)]
            simp [List.getD, show j < dk.size by omega]
          · rw [List.getElem?_eq_none (by simp; omega), List.getElem?_eq_none (by omega)])
        have HL := Lib.hid hlen
        have kz : (k : Int) ≤ (d.length : Int) := by omega
        have kz2 : (k : Int) ≤ (cap : Int) := by omega
        clear hlow hlen HR
        go_wp2
        go_ret
        exact ⟨by rw [HL.out]; rfl, (hRow.out.setCells k (by simp; omega) _).of_eq HTk.out, hF.out.trans (Fr.setCells g _ _ _)⟩
end Go.Proofs.YtjnlchhikdfifaaGreatDoor
/- subst.gather: a row of pairs is put in order, the first of each name, none that is its own type. -/
namespace Go.Proofs.YtjnlchhikdfifaaGreatDoor
open Go.RowKit Go.Sort Go.Lib
attribute [local go_sem] Oper.semAt_some

theorem gath (d d1 : List PR) (h1 : ∀ x, x ∈ d1 ↔ x ∈ d) (h2 : d1.length = d.length) (h3 : ∀ n, lk n d1 = lk n d) (h4 : d1.Pairwise (fun x y => ltP y x = false)) :
    Gath d ((keptUpTo (kpC d1.toArray) d1.toArray d1.length).filter fun x => !ownP x) := by
  obtain ⟨f1, f2, f3, _⟩ := comp_facts d1.toArray (by simpa using h4) d1.length (by simp)
  have e : d1.toArray.toList.take d1.length = d1 := by simp
  rw [e] at f2 f3
  obtain ⟨n1, n2⟩ := neat_filter f1
  refine ⟨n1, fun x hx => (h1 x).1 (f2 x (List.mem_filter.1 hx).1), ?_, fun n => ?_⟩
  · refine Nat.le_trans (List.length_filter_le _ _) ?_
    unfold keptUpTo
    rw [List.length_map, ← h2]
    exact Nat.le_trans (List.length_filter_le _ _) (by simp)
  · rw [n2 n]; unfold ty; rw [f3 n, h3 n]

set_option maxRecDepth 100000 in
set_option maxHeartbeats 2000000 in
theorem gather_some (g cap : Nat) (d : List PR) (w : World) (h : RowP g d w) (ht : Typ d w) (hf : FitsAll d) (hc : d.length ≤ cap) (hl : d.length < 20) (h0 : d ≠ []) :
    Calls Tryz.prog 75 #[.slice (some ⟨g, 0, none⟩) d.length cap] w fun e w' =>
      (∃ l, (e = .returned (.agg #[.slice (some ⟨g, 0, none⟩) l.length cap]) ∧ l.length ≤ cap) ∧ RowP g l w' ∧ Gath d l) ∧ Fr g w w' := by
  obtain ⟨s1, s2, s3, s4⟩ := sort_facts d.toArray
  have HS := Lib.hid (fun o => sortStable_any g cap d (w.alloc o) (h.below ((Below.refl _ w).alloc (Nat.le_refl _) o)) hl)
  have HRow := Lib.hid (fun o m os => (h.below ((Below.refl _ w).alloc (Nat.le_refl _) o)).sort m (insertionSort ltP d.toArray 0 d.toArray.size) os (by simpa using s2))
  have HFr := Lib.hid (fun o m os => (Fr.of_below (g := g) ((Below.refl _ w).alloc (Nat.le_refl _) o)).trans (Fr.sort (w.alloc o) g m (insertionSort ltP d.toArray 0 d.toArray.size) os))
  have hlt := h.lt
  obtain ⟨D, hD⟩ : ∃ D, insertionSort ltP d.toArray 0 d.toArray.size = D := ⟨_, rfl⟩
  rw [hD] at s1 s2 s3 s4 HS HRow HFr
  obtain ⟨d1, hd1⟩ : ∃ d1, D.toList = d1 := ⟨_, rfl⟩
  rw [hd1] at s1 s2 s3 s4 HRow
  have s2' : d1.length = d.length := by simpa using s2
  have hD1 : D = d1.toArray := by rw [← hd1]
  have HG := Lib.hid (gath d d1 (by simpa using s1) s2' (by simpa using s3) s4)
  have h01 : d1 ≠ [] := fun e => h0 (List.length_eq_zero_iff.1 (by rw [← s2', e]; rfl))
  have HT := Lib.hid ht
  have HM := Lib.hid (fun x (hx : x ∈ keptUpTo (kpC d1.toArray) d1.toArray d1.length) => (s1 x).1 (by
    have := (comp_facts d1.toArray (by simpa using s4) d1.length (by simp)).2.1 x hx
    exact List.mem_of_mem_take this))
  have HC := Lib.hid (fun W (hr : RowP g d1 W) => compact_any g cap d1 W hr (by omega) (by omega) h01)
  rw [s2'] at HC
  have hkl : (keptUpTo (kpC d1.toArray) d1.toArray d.length).length ≤ d.length := by
    unfold keptUpTo
    rw [List.length_map]
    exact Nat.le_trans (List.length_filter_le _ _) (by simp)
  rw [s2'] at HG HM
  obtain ⟨d2, hd2⟩ : ∃ d2, keptUpTo (kpC d1.toArray) d1.toArray d.length = d2 := ⟨_, rfl⟩
  rw [hd2] at HG HM HC hkl
  have HD := Lib.hid (fun W (hr : RowP g d2 W) (hk : KeepT w W) => delete_any g cap d2 W hr (fun x hx => ht.keep hk x (by simpa using HM.out x hx)) (fun x hx => hf x (by simpa using HM.out x hx)) (by omega) (by omega))
  have hfl : (d2.filter fun x => !ownP x).length ≤ d2.length := List.length_filter_le _ _
  obtain ⟨d3, hd3⟩ : ∃ d3, (d2.filter fun x => !ownP x) = d3 := ⟨_, rfl⟩
  rw [hd3] at HG HD hfl
  have HK := Lib.hid (fun W (f : Fr g w W) => f.keepT h)
  clear s1 s2 s3 s4 h ht hf hD hd1 hD1 h0 h01 hd2 hd3 HT HM
  go_enter Tryz.func75, Tryz.ntmps75
  go_wp2_with (go_at_call 100; refine (HS.out _).mono ?_)
  rintro e w1 ⟨rfl, m, os, hw1⟩
  have HR1 := Lib.hid (HRow.out (.cells #[.slice none 0 0] 73) m os)
  have HF1 := Lib.hid (HFr.out (.cells #[.slice none 0 0] 73) m os)
  have hb1 : w1.heap[w.heap.size]? = some (.cells #[.slice none 0 0] 73 (0, 0)) := by
    rw [hw1, heap_sortW _ _ _ _ _ _ (by simp) (by omega)]; exact alloc_new w _
  rw [← hw1] at HR1 HF1
  clear HRow HFr HS hw1
  have HB1 := Lib.hid hb1
  clear hb1
  go_wp2_with (go_at_call 102; refine (HC.out _ HR1.out).mono ?_)
  rintro e w2 ⟨rfl, hr2, hf2⟩
  have HB2 := Lib.hid ((hf2.2 _ (Array.getElem?_eq_some_iff.1 HB1.out).1 (by omega)).trans HB1.out)
  have HR2 := Lib.hid hr2
  have HF2 := Lib.hid (HF1.out.trans hf2)
  clear hr2 hf2
  go_wp2_with (go_at_call 104; refine (HD.out _ HR2.out (HK.out _ HF2.out)).mono ?_)
  rintro e w3 ⟨rfl, hr3, hf3⟩
  have hb3 := (hf3.2 _ (Array.getElem?_eq_some_iff.1 HB2.out).1 (by omega)).trans HB2.out
  have c3 : w3.cell? ⟨w.heap.size, 0, none⟩ = some (.slice none 0 0) := by rw [Lib.cell_of_heap hb3]; rfl
  have z3 := Lib.frozen_of_heap hb3 0
  have HB3 := Lib.hid hb3
  have HR3 := Lib.hid hr3
  have HF3 := Lib.hid (HF2.out.trans hf3)
  clear hr3 hf3 hb3
  go_wp2
  have hs := blk_set (o := 0) HB3.out (.slice (some ⟨g, 0, none⟩) d3.length cap)
  have hc0 : (w3.setCell ⟨w.heap.size, 0, none⟩ (.slice (some ⟨g, 0, none⟩) d3.length cap)).cell? ⟨w.heap.size, 0, none⟩ = some (.slice (some ⟨g, 0, none⟩) d3.length cap) := by rw [Lib.cell_of_heap hs]; rfl
  refine bodyPost_ret (v := .agg #[.slice (some ⟨g, 0, none⟩) d3.length cap]) (by simp [results, Tryz.results75, go_sem, hc0]) rfl ⟨⟨d3, ⟨rfl, by omega⟩, HR3.out.same (Below.heap_setCell _ ⟨w.heap.size, 0, none⟩ _ _ (by show g ≠ w.heap.size; omega)), HG.out⟩, HF3.out.1.trans ((Below.refl 0 w3).setCell (p := ⟨w.heap.size, 0, none⟩) (Nat.zero_le _) _), fun k hk hg => (Below.heap_setCell _ ⟨w.heap.size, 0, none⟩ _ _ (by show k ≠ w.heap.size; omega)).trans (HF3.out.2 k hk hg)⟩

/-! Of no pair. -/
theorem compact_none (a : Option Addr) (c : Nat) (w : World) :
    Calls Tryz.prog 102 #[.slice a 0 c, .func (.func 103) #[] #[]] w fun e w' => e = .returned (.slice a 0 c) ∧ w = w' := by
  go_enter Tryz.func102, Tryz.ntmps102
  go_wp2
  go_ret
  exact ⟨rfl, rfl⟩
theorem index_none (a : Option Addr) (c : Nat) (w : World) :
    Calls Tryz.prog 117 #[.slice a 0 c, .func (.func 105) #[] #[]] w fun e w' => e = .returned (.int .i64 (-1)) ∧ w = w' := by
  go_enter Tryz.func117, Tryz.ntmps117
  go_wp2
  refine wp_loop_rounds 1 ?_
  rw [rounds_succ]
  go_wp2
  go_ret
  exact ⟨rfl, rfl⟩
theorem delete_none (a : Option Addr) (c : Nat) (w : World) :
    Calls Tryz.prog 104 #[.slice a 0 c, .func (.func 105) #[] #[]] w fun e w' => e = .returned (.slice a 0 c) ∧ w = w' := by
  go_enter Tryz.func104, Tryz.ntmps104
  go_wp2_with (go_at_call 117; refine (index_none _ _ _).mono ?_)
  rintro e w1 ⟨rfl, rfl⟩
  go_wp2
  go_ret
  exact ⟨rfl, rfl⟩
set_option maxRecDepth 100000 in
set_option maxHeartbeats 1000000 in
theorem gather_none (a : Option Addr) (c : Nat) (w : World) :
    Calls Tryz.prog 75 #[.slice a 0 c] w fun e w' => e = .returned (.agg #[.slice a 0 c]) ∧ Below w.heap.size w w' := by
  go_enter Tryz.func75, Tryz.ntmps75
  go_wp2_with (first
    | (go_at_call 100; refine (sortNone _ _ _).mono ?_; rintro e w1 ⟨rfl, rfl⟩)
    | (go_at_call 102; refine (compact_none _ _ _).mono ?_; rintro e w1 ⟨rfl, rfl⟩)
    | (go_at_call 104; refine (delete_none _ _ _).mono ?_; rintro e w1 ⟨rfl, rfl⟩))
  refine bodyPost_ret (v := .agg #[.slice a 0 c]) (by simp [results, Tryz.results75, go_sem]) rfl ⟨rfl, (Below.refl _ w).alloc (Nat.le_refl _) _⟩

/-- A slice of pairs. -/
def SlP (v : Value) (d : List PR) (w : World) : Prop := (d = [] ∧ ∃ a c, v = .slice a 0 c ∧ (a = none → c = 0)) ∨ ∃ g cap, v = .slice (some ⟨g, 0, none⟩) d.length cap ∧ d.length ≤ cap ∧ RowP g d w
/-- Types for variables, as they lie in memory: the pairs by names. -/
def SubAt (v : Value) (d : List PR) (w : World) : Prop := (SlP v d w ∧ Neat d) ∧ Typ d w
theorem SubAt.below {v : Value} {d : List PR} {w w' : World} (h : SubAt v d w) (hb : Below w.heap.size w w') : SubAt v d w' := by
  obtain ⟨⟨h1, h2⟩, h3⟩ := h
  refine ⟨⟨?_, h2⟩, h3.keep (KeepT.of_below hb)⟩
  rcases h1 with h1 | ⟨g, cap, e, hc, hr⟩
  · exact .inl h1
  · exact .inr ⟨g, cap, e, hc, hr.below hb⟩
theorem gath_nil : Gath [] [] := ⟨⟨List.Pairwise.nil, fun x hx => by cases hx⟩, fun x hx => hx, Nat.le_refl _, fun _ => rfl⟩
end Go.Proofs.YtjnlchhikdfifaaGreatDoor
/- (Subst).find: the type that a name has. -/
namespace Go.Proofs.YtjnlchhikdfifaaGreatDoor
open Go.RowKit Go.Sort Go.Lib
attribute [local go_sem] Oper.semAt_some

def cmpN (x : PR) (n : ByteArray) : Int := cmpL x.n.data.toList n.data.toList
theorem cmpN_zero {x : PR} {n : ByteArray} : cmpN x n = 0 ↔ x.n = n := by
  have := name_of_cmp (x := x) (y := ⟨n, .var n, none, 0⟩)
  have h2 := cmp_of_name (x := x) (y := ⟨n, .var n, none, 0⟩)
  exact ⟨fun h => this h, fun h => h2 h⟩

set_option maxRecDepth 100000 in
set_option maxHeartbeats 1000000 in
theorem cmpN_any (x : PR) (n : ByteArray) (w : World) :
    Calls Tryz.prog 79 #[pairV x, .string n] w fun e w' => e = .returned (.int .i64 (cmpN x n)) ∧ Below w.heap.size w w' := by
  have HC := Lib.hid (fun W => cmpStr_any x.n n W)
  have hr : cmpL x.n.data.toList n.data.toList = cmpN x n := rfl
  rw [hr] at HC
  have HB := Lib.hid (show ∀ o1 : Obj, Below w.heap.size w (w.alloc o1) from fun o1 => (Below.refl _ w).alloc (Nat.le_refl _) _)
  clear hr
  generalize cmpN x n = r at *
  simp only [pairV]
  go_enter Tryz.func79, Tryz.ntmps79
  go_wp2_with (go_at_call 69; refine (HC.out _).mono ?_; rintro e w2 ⟨rfl, rfl⟩)
  go_ret
  exact ⟨rfl, HB.out _⟩

/-- In a row in order: what is less stands ahead. -/
theorem sorted_less {d : List PR} (h : Sorted d) (n : ByteArray) {a b : Nat} (hab : a ≤ b) (hb : b < d.length) (hl : cmpN (d.getD b noP) n < 0) : cmpN (d.getD a noP) n < 0 := by
  rcases Nat.lt_or_ge a b with hlt | hge
  · have h1 := List.pairwise_iff_getElem.1 h a b (by omega) hb hlt
    have ea : d.getD a noP = d[a] := by simp [List.getD, show a < d.length by omega]
    have eb : d.getD b noP = d[b] := by simp [List.getD, hb]
    rw [eb] at hl
    rw [ea]
    exact cmpP_trans (z := ⟨n, .var n, none, 0⟩) h1 hl
  · obtain rfl : a = b := by omega
    exact hl
/-- What the search finds. -/
def Found (d : List PR) (n : ByteArray) (i : Nat) (b : Bool) : Prop := (b = true ∧ i < d.length ∧ lk n d = some (d.getD i noP)) ∨ (b = false ∧ lk n d = none)
theorem found_yes {d : List PR} (h : Sorted d) {n : ByteArray} {i : Nat} (hi : i < d.length) (hz : cmpN (d.getD i noP) n = 0) : Found d n i true :=
  .inl ⟨rfl, hi, by have := lk_sorted h (getD_mem hi); rwa [cmpN_zero.1 hz] at this⟩
theorem found_no {d : List PR} {n : ByteArray} {i : Nat} (h1 : ∀ t, t < i → cmpN (d.getD t noP) n < 0) (h2 : ∀ t, i ≤ t → t < d.length → 0 ≤ cmpN (d.getD t noP) n) (h3 : i < d.length → cmpN (d.getD i noP) n ≠ 0) (hs : Sorted d) : Found d n i false := by
  refine .inr ⟨rfl, ?_⟩
  cases e : lk n d with
  | none => rfl
  | some x =>
    exfalso
    obtain ⟨hm, hn⟩ := lk_name e
    obtain ⟨t, ht, rfl⟩ := List.mem_iff_getElem.1 hm
    have et : d.getD t noP = d[t] := by simp [List.getD, ht]
    have hz : cmpN (d.getD t noP) n = 0 := by rw [et]; exact cmpN_zero.2 hn
    rcases Nat.lt_trichotomy t i with h | h | h
    · have := h1 t h; omega
    · subst h; exact h3 ht hz
    · have hi : i < d.length := by omega
      have h4 := h2 i (Nat.le_refl _) hi
      have h5 := h3 hi
      have h6 := List.pairwise_iff_getElem.1 hs i t hi ht h
      have ei : d.getD i noP = d[i] := by simp [List.getD, hi]
      rw [ei] at h4 h5
      rw [et] at hz
      have h7 := cmpN_zero.1 hz
      have h8 : cmpN d[i] n = cmpP d[i] d[t] := by unfold cmpN cmpP; rw [h7]
      omega

set_option maxRecDepth 100000 in
set_option maxHeartbeats 4000000 in
theorem search_some (g cap : Nat) (d : List PR) (n : ByteArray) (w : World) (h : RowP g d w) (hs : Sorted d) (hl : d.length < 1152921504606846976) :
    Calls Tryz.prog 78 #[.slice (some ⟨g, 0, none⟩) d.length cap, .string n, .func (.func 79) #[] #[]] w fun e w' =>
      (∃ (i : Nat) (b : Bool), e = .returned (.tuple #[.int .i64 (i : Int), .bool b]) ∧ Found d n i b) ∧ Below w.heap.size w w' := by
  have HH := Lib.hid h; have HS := Lib.hid hs
  clear h hs
  go_enter Tryz.func78, Tryz.ntmps78
  go_wp2
  go_loopw [9, 10] (fun s9 s10 wr => ∃ lo hi : Nat, (lo ≤ hi ∧ hi ≤ d.length) ∧ s9 = .int .i64 lo ∧ s10 = .int .i64 hi ∧ Hid (Below w.heap.size w wr) ∧
    Hid ((∀ t, t < lo → cmpN (d.getD t noP) n < 0) ∧ (∀ t, hi ≤ t → t < d.length → 0 ≤ cmpN (d.getD t noP) n))) (fun s9 s10 _ => (intOf s10).toNat - (intOf s9).toNat)
  case atStart => exact ⟨0, d.length, ⟨Nat.zero_le _, Nat.le_refl _⟩, rfl, rfl, Lib.hid (Below.refl _ _), Lib.hid ⟨fun t ht => absurd ht (Nat.not_lt_zero _), fun t h1 h2 => by omega⟩⟩
  case round =>
    obtain ⟨lo, hi, ⟨hlh, hin⟩, rfl, rfl, hB, hI⟩ := hrel
    by_cases hlt : lo < hi
    · obtain ⟨m, hm⟩ : ∃ m, (lo + hi) / 2 = m := ⟨_, rfl⟩
      have hmz : ((lo : Int) + (hi : Int)) / 2 = (m : Int) := by omega
      have hm1 : m < d.length := by omega
      have hm1z : (m : Int) < (d.length : Int) := by omega
      obtain ⟨x0, x1, x2, x3⟩ := (HH.out.below hB.out).cells hm1
      have HC := Lib.hid (cmpN_any (d.getD m noP) n wr)
      obtain ⟨r, hr⟩ : ∃ r, cmpN (d.getD m noP) n = r := ⟨_, rfl⟩
      have HR := Lib.hid hr
      rw [hr] at HC
      clear hr
      generalize d.getD m noP = x at x0 x1 x2 x3 HC
      simp only [pairV] at HC
      by_cases hyx : r < 0
      · go_wp2_with (go_at_call 79; refine HC.out.mono ?_; rintro e w2 ⟨rfl, hb2⟩; have HB2 := Lib.hid (hB.out.trans (hb2.mono hB.out.size)); clear hb2)
        go_wp2
        go_roundw
        case rel => exact ⟨m + 1, hi, ⟨by omega, hin⟩, by first | go_num | (congr 1; omega), rfl, HB2, Lib.hid ⟨fun t ht => sorted_less HS.out n (show t ≤ m by omega) hm1 (by rw [HR.out]; exact hyx), hI.out.2⟩⟩
        case measure => simp [intOf]; omega
      · go_wp2_with (go_at_call 79; refine HC.out.mono ?_; rintro e w2 ⟨rfl, hb2⟩; have HB2 := Lib.hid (hB.out.trans (hb2.mono hB.out.size)); clear hb2)
        go_wp2
        go_roundw
        case rel => exact ⟨lo, m, ⟨by omega, by omega⟩, rfl, rfl, HB2, Lib.hid ⟨hI.out.1, fun t ht htn => Int.not_lt.1 fun h => by have := sorted_less HS.out n ht htn h; rw [HR.out] at this; omega⟩⟩
        case measure => simp [intOf]; omega
    · obtain rfl : hi = lo := by omega
      by_cases hn : hi < d.length
      · have hnz : (hi : Int) < (d.length : Int) := by omega
        obtain ⟨x0, x1, x2, x3⟩ := (HH.out.below hB.out).cells hn
        have HC := Lib.hid (cmpN_any (d.getD hi noP) n wr)
        obtain ⟨r, hr⟩ : ∃ r, cmpN (d.getD hi noP) n = r := ⟨_, rfl⟩
        have HR := Lib.hid hr
        rw [hr] at HC
        clear hr
        generalize d.getD hi noP = x at x0 x1 x2 x3 HC
        simp only [pairV] at HC
        by_cases hyx : r = 0
        · subst hyx
          go_wp2_with (go_at_call 79; refine HC.out.mono ?_; rintro e w2 ⟨rfl, hb2⟩; have HB2 := Lib.hid (hB.out.trans (hb2.mono hB.out.size)); clear hb2)
          go_wp2
          go_ret2
          exact ⟨⟨hi, true, rfl, found_yes HS.out hn HR.out⟩, HB2.out⟩
        · have hrz : (r == 0) = false := by simpa using hyx
          have HQ := Lib.hid hyx
          clear hyx
          go_wp2_with (go_at_call 79; refine HC.out.mono ?_; rintro e w2 ⟨rfl, hb2⟩; have HB2 := Lib.hid (hB.out.trans (hb2.mono hB.out.size)); clear hb2)
          go_wp2
          go_ret2
          exact ⟨⟨hi, false, rfl, found_no hI.out.1 hI.out.2 (fun _ => by rw [HR.out]; exact HQ.out) HS.out⟩, HB2.out⟩
      · obtain rfl : hi = d.length := by omega
        go_wp2
        go_ret2
        exact ⟨⟨d.length, false, rfl, found_no hI.out.1 hI.out.2 (fun h => absurd h (Nat.lt_irrefl _)) HS.out⟩, hB.out⟩

theorem search_none (a : Option Addr) (c : Nat) (n : ByteArray) (w : World) :
    Calls Tryz.prog 78 #[.slice a 0 c, .string n, .func (.func 79) #[] #[]] w fun e w' =>
      e = .returned (.tuple #[.int .i64 0, .bool false]) ∧ w = w' := by
  go_enter Tryz.func78, Tryz.ntmps78
  go_wp2
  refine wp_loop_rounds 1 ?_
  rw [rounds_succ]
  go_wp2
  go_ret2
  exact ⟨rfl, rfl⟩
end Go.Proofs.YtjnlchhikdfifaaGreatDoor
/- (Subst).find, own, (Subst).Apply: types in variables' places. -/
namespace Go.Proofs.YtjnlchhikdfifaaGreatDoor
open Go.RowKit Go.Sort Go.Lib
attribute [local go_sem] Oper.semAt_some

theorem Tryz.infoTy : (Tryz.prog.info? 31).map (fun i => (i.zero, i.size, i.bytes)) = some (some (.agg #[.int .i64 0, .string ⟨#[]⟩, .slice none 0 0]), 3, 48) := by kernel_rfl
def zeros (n : Nat) : Array Value := madeCells #[.int .i64 0, .string ⟨#[]⟩, .slice none 0 0] (n * 3)
theorem make_row3 (n : Nat) (hn : n ≤ 1000000000) (w : World) :
    (Instr.makeSlice 29 (.int .i64 (n : Int)) (.int .i64 (n : Int))).run Tryz.prog w = .ok (.slice (some ⟨w.heap.size, 0, none⟩) n n) (w.alloc (.cells (zeros n) 31)) := by
  obtain ⟨i, hi, hzz⟩ := Option.map_eq_some_iff.1 Tryz.infoTy
  simp only [Prod.mk.injEq] at hzz
  obtain ⟨hz, hs, hb⟩ := hzz
  have hr := run_make (P := Tryz.prog) w 29 31 i _ Tryz.underlying29 hi hz .i64 .i64 n n (by omega) (Int.le_refl _) (by rw [hb]; omega) (by omega)
  simp only [Int.toNat_natCast, hs] at hr
  exact hr

/-- The row of the copies, the first i of them made. -/
def RowTo (N G : Nat) (l : List T) (i : Nat) (w : World) : Prop :=
  ∃ cs, ∃ z : Nat → Value, w.heap[G]? = some (.cells cs 31 (0, 0)) ∧ cs.size = l.length * 3 ∧
    ∀ j (h : j < l.length), j < i → (cs[j * 3]? = some (.int .i64 l[j].kind) ∧ cs[j * 3 + 1]? = some (.string l[j].name) ∧ cs[j * 3 + 2]? = some (z j)) ∧ TyIn (fun k => (N ≤ k ∧ k ≠ G) ∧ k < w.heap.size) w l[j] (z j)
theorem RowTo.below {N G : Nat} {l : List T} {i : Nat} {w w' : World} (h : RowTo N G l i w) (hb : Below w.heap.size w w') : RowTo N G l i w' := by
  obtain ⟨cs, z, h1, h2, h3⟩ := h
  refine ⟨cs, z, (hb.block G (Array.getElem?_eq_some_iff.1 h1).1).trans h1, h2, fun j hj hi => ⟨(h3 j hj hi).1, ?_⟩⟩
  exact ((h3 j hj hi).2.keep (fun k _ _ hk hh => (hb.block k hk.2).trans hh)).mono (fun k hk => ⟨hk.1, Nat.lt_of_lt_of_le hk.2 hb.size⟩)
/-- Three stores: the next copy is laid into the row. -/
theorem RowTo.next {N G : Nat} {l : List T} {i : Nat} {w : World} (h : RowTo N G l i w) (hi : i < l.length) {v : Value} (hv : TyIn (fun k => (N ≤ k ∧ k ≠ G) ∧ k < w.heap.size) w l[i] v) :
    RowTo N G l (i + 1) (((w.setCell ⟨G, i * 3, none⟩ (.int .i64 l[i].kind)).setCell ⟨G, i * 3 + 1, none⟩ (.string l[i].name)).setCell ⟨G, i * 3 + 2, none⟩ v) := by
  obtain ⟨cs, z, h1, h2, h3⟩ := h
  have hsz : ∀ (W : World) (a : Addr) (x : Value), (W.setCell a x).heap.size = W.heap.size := fun W a x => by simp [World.setCell]
  have hset : ∀ {W : World} {o : Nat} {cs : Array Value} (v : Value), W.heap[G]? = some (.cells cs 31 (0, 0)) → (W.setCell ⟨G, o, none⟩ v).heap[G]? = some (.cells (cs.setIfInBounds o v) 31 (0, 0)) := fun {W o cs} v h => by
    obtain ⟨hlt, hk⟩ := Array.getElem?_eq_some_iff.1 h
    show (W.heap.modify G _)[G]? = _
    rw [Array.getElem?_eq_getElem (by rw [Array.size_modify]; exact hlt), Array.getElem_modify_self, hk]
    rfl
  have hoth : ∀ k, k ≠ G → (((w.setCell ⟨G, i * 3, none⟩ (.int .i64 l[i].kind)).setCell ⟨G, i * 3 + 1, none⟩ (.string l[i].name)).setCell ⟨G, i * 3 + 2, none⟩ v).heap[k]? = w.heap[k]? := fun k hk =>
    (Below.heap_setCell _ ⟨G, i * 3 + 2, none⟩ _ k hk).trans ((Below.heap_setCell _ ⟨G, i * 3 + 1, none⟩ _ k hk).trans (Below.heap_setCell _ ⟨G, i * 3, none⟩ _ k hk))
  refine ⟨((cs.setIfInBounds (i * 3) (.int .i64 l[i].kind)).setIfInBounds (i * 3 + 1) (.string l[i].name)).setIfInBounds (i * 3 + 2) v, fun j => if j = i then v else z j, hset _ (hset _ (hset _ h1)), by simpa using h2, fun j hj hji => ?_⟩
  by_cases e : j = i
  · subst e
    refine ⟨⟨?_, ?_, ?_⟩, ?_⟩
    · simp [Array.getElem?_setIfInBounds, h2]; omega
    · simp [Array.getElem?_setIfInBounds, h2]; omega
    · simp [Array.getElem?_setIfInBounds, h2]; omega
    · simp only [if_true, hsz]
      exact hv.keep (fun k _ _ hk hh => (hoth k hk.1.2).trans hh)
  · obtain ⟨⟨a1, a2, a3⟩, a4⟩ := h3 j hj (by omega)
    refine ⟨⟨?_, ?_, ?_⟩, ?_⟩
    · rw [Array.getElem?_setIfInBounds_ne (by omega), Array.getElem?_setIfInBounds_ne (by omega), Array.getElem?_setIfInBounds_ne (by omega)]; exact a1
    · rw [Array.getElem?_setIfInBounds_ne (by omega), Array.getElem?_setIfInBounds_ne (by omega), Array.getElem?_setIfInBounds_ne (by omega)]; exact a2
    · rw [Array.getElem?_setIfInBounds_ne (by omega), Array.getElem?_setIfInBounds_ne (by omega), Array.getElem?_setIfInBounds_ne (by omega)]; simp only [if_neg e]; exact a3
    · simp only [if_neg e, hsz]
      exact a4.keep (fun k _ _ hk hh => (hoth k hk.1.2).trans hh)
theorem RowTo.start (N : Nat) (l : List T) (w' : World) (G : Nat) (h : w'.heap[G]? = some (.cells (zeros l.length) 31 (0, 0))) : RowTo N G l 0 w' :=
  ⟨_, fun _ => undef, h, by simp [zeros, size_madeCells], fun j _ h => absurd h (by omega)⟩
theorem RowTo.done {G : Nat} {l : List T} {w : World} (h : RowTo G G l l.length w) {t : T} (ht : t.kids = l) (N : Nat) (W : World) (hN : N ≤ G) (hk : ∀ k, G ≤ k → W.heap[k]? = w.heap[k]?) : TyIn (fun k => N ≤ k) W t (.slice (some ⟨G, 0, none⟩) l.length l.length) := by
  subst ht
  obtain ⟨cs, z, h1, h2, h3⟩ := h
  refine .row t G t.kids.length cs (0, 0) z hN ((hk G (Nat.le_refl _)).trans h1) (Nat.le_refl _) (fun i hi => (h3 i hi hi).1) (fun i hi => ?_)
  exact ((h3 i hi hi).2.keep (fun k _ _ ho hh => (hk k ho.1.1).trans hh)).mono (fun k hk => Nat.le_trans hN hk.1.1)
theorem RowTo.cells {N G : Nat} {l : List T} {i : Nat} {w : World} (h : RowTo N G l i w) (hi : i < l.length) : ∃ x y z, w.cell? ⟨G, i * 3, none⟩ = some x ∧ w.cell? ⟨G, i * 3 + 1, none⟩ = some y ∧ w.cell? ⟨G, i * 3 + 2, none⟩ = some z ∧ w.frozen? ⟨G, i * 3, none⟩ = false ∧ w.frozen? ⟨G, i * 3 + 1, none⟩ = false ∧ w.frozen? ⟨G, i * 3 + 2, none⟩ = false := by
  obtain ⟨cs, z, h1, h2, _⟩ := h
  refine ⟨cs[i * 3]'(by omega), cs[i * 3 + 1]'(by omega), cs[i * 3 + 2]'(by omega), ?_, ?_, ?_, Lib.frozen_of_heap h1 _, Lib.frozen_of_heap h1 _, Lib.frozen_of_heap h1 _⟩ <;> (rw [Lib.cell_of_heap h1]; simp; try omega)

theorem set3_block {W : World} {r : Nat} {x0 y0 z0 : Value} {T : TypeId} (h : W.heap[r]? = some (.cells #[x0, y0, z0] T (0, 0))) (x y z : Value) :
    (((W.setCell ⟨r, 0, none⟩ x).setCell ⟨r, 1, none⟩ y).setCell ⟨r, 2, none⟩ z).heap[r]? = some (.cells #[x, y, z] T (0, 0)) := blk_set (blk_set (blk_set h x) y) z
/-- No part of a small type is wider than the type. -/
theorem len_sizes : ∀ l : List T, l.length ≤ tsizes l
  | [] => Nat.le_refl _
  | a :: l => by have := len_sizes l; have := tsize_eq a; simp [tsizes]; omega
theorem size_mem {k : T} : ∀ {l : List T}, k ∈ l → tsize k ≤ tsizes l
  | a :: l, h => by
    rw [tsizes]
    rcases List.mem_cons.1 h with rfl | h
    · omega
    · have := size_mem h; omega
theorem kids_small {t : T} {n : Nat} (h : tsize t ≤ n) : t.kids.length ≤ n ∧ ∀ k ∈ t.kids, tsize k ≤ n := by
  have e := tsize_eq t
  exact ⟨by have := len_sizes t.kids; omega, fun k hk => by have := size_mem hk; omega⟩

mutual
/-- Types in variables' places. -/
noncomputable def app (d : List PR) : T → T
  | .var n => ty n d
  | .con n l => .con n (apps d l)
  | .fn a b => .fn (app d a) (app d b)
  | .all n a => .all n (app d a)
noncomputable def apps (d : List PR) : List T → List T
  | [] => []
  | a :: l => app d a :: apps d l
end
theorem apps_map (d : List PR) : ∀ l, apps d l = l.map (app d)
  | [] => rfl
  | a :: l => by rw [apps, apps_map d l]; rfl
theorem app_parts (d : List PR) (t : T) (h : ∀ n, t ≠ .var n) : (app d t).kind = t.kind ∧ (app d t).name = t.name ∧ (app d t).kids = t.kids.map (app d) := by
  cases t with
  | var n => exact absurd rfl (h n)
  | con n l => rw [app, apps_map]; exact ⟨rfl, rfl, rfl⟩
  | fn a b => rw [app]; exact ⟨rfl, rfl, rfl⟩
  | all n a => rw [app]; exact ⟨rfl, rfl, rfl⟩
mutual
theorem app_nil : ∀ t, app [] t = t
  | .var n => rfl
  | .con n l => by rw [app, apps_nil l]
  | .fn a b => by rw [app, app_nil a, app_nil b]
  | .all n a => by rw [app, app_nil a]
theorem apps_nil : ∀ l, apps [] l = l
  | [] => rfl
  | a :: l => by rw [apps, app_nil a, apps_nil l]
end

def fv' : Option PR → Value
  | none => .agg #[.int .i64 0, .string ⟨#[]⟩, .slice none 0 0]
  | some x => .agg #[.int .i64 x.t.kind, .string x.t.name, .slice x.a x.t.kids.length x.c]

set_option maxRecDepth 100000 in
set_option maxHeartbeats 2000000 in
theorem find_any (v : Value) (d : List PR) (n : ByteArray) (w : World) (h : SubAt v d w) (hl : d.length < 1152921504606846976) :
    Calls Tryz.prog 65 #[.agg #[v], .string n] w fun e w' => e = .returned (.tuple #[fv' (lk n d), .bool (lk n d).isSome]) ∧ Below w.heap.size w w' := by
  obtain ⟨⟨h1, h2⟩, h3⟩ := h
  have hb2 : ∀ o1 o2 : Obj, Below w.heap.size w ((w.alloc o1).alloc o2) := fun o1 o2 => ((Below.refl _ w).alloc (Nat.le_refl _) _).alloc (by simp) _
  have HB2 := Lib.hid hb2
  clear hb2
  rcases h1 with ⟨rfl, a, c, rfl, _⟩ | ⟨g, cap, rfl, hc, hr⟩
  · have e1 : lk n [] = none := rfl
    rw [e1]
    go_enter Tryz.func65, Tryz.ntmps65
    go_wp2_with (go_at_call 78; refine (search_none _ _ _ _).mono ?_; rintro e w2 ⟨rfl, rfl⟩)
    refine bodyPost_ret (v := .tuple #[.agg #[.int .i64 0, .string ⟨#[]⟩, .slice none 0 0], .bool false]) (by simp [results, Tryz.results65, go_sem]) rfl ⟨rfl, HB2.out _ _⟩
  · have HS := Lib.hid (fun o1 o2 => search_some g cap d n ((w.alloc o1).alloc o2) (hr.below (HB2.out o1 o2)) h2.1 hl)
    have HR := Lib.hid hr
    have hg := hr.lt
    clear h2 h3 hr
    obtain ⟨res, hres⟩ : ∃ r, lk n d = r := ⟨_, rfl⟩
    have HRes := Lib.hid hres
    rw [hres]
    clear hres
    go_enter Tryz.func65, Tryz.ntmps65
    go_wp2_with fail
    have hz : ∀ o1 : Obj, ((w.alloc o1).alloc (.cells #[.int .i64 0, .string ⟨#[]⟩, .slice none 0 0] 31)).heap[w.heap.size + 1]? = some (.cells #[.int .i64 0, .string ⟨#[]⟩, .slice none 0 0] 31 (0, 0)) := fun o1 => by
      have := alloc_new (w.alloc o1) (.cells #[.int .i64 0, .string ⟨#[]⟩, .slice none 0 0] 31)
      simpa using this
    have hy : ∀ o2 : Obj, ((w.alloc (.cells #[.slice (some ⟨g, 0, none⟩) d.length cap] 73)).alloc o2).heap[w.heap.size]? = some (.cells #[.slice (some ⟨g, 0, none⟩) d.length cap] 73 (0, 0)) := fun o2 => by
      rw [Below.heap_alloc _ _ _ (by simp)]; exact alloc_new w _
    have HZ := Lib.hid hz; have HY := Lib.hid hy
    clear hz hy
    go_wp2_with (go_at_call 78; refine (HS.out _ _).mono ?_)
    rintro e w2 ⟨⟨i, b, rfl, hfd⟩, hb2⟩
    have hz2 := (hb2.block (w.heap.size + 1) (by simp)).trans (HZ.out _)
    have hy2 := (hb2.block w.heap.size (by simp; omega)).trans (HY.out _)
    obtain ⟨z0, z1, z2⟩ := three_cells hz2
    have u0 := Lib.frozen_of_heap hz2 0
    have u1 := Lib.frozen_of_heap hz2 1
    have u2 := Lib.frozen_of_heap hz2 2
    have y0 : w2.cell? ⟨w.heap.size, 0, none⟩ = some (.slice (some ⟨g, 0, none⟩) d.length cap) := by rw [Lib.cell_of_heap hy2]; rfl
    have HZ2 := Lib.hid hz2
    have HB3 := Lib.hid ((HB2.out _ _).trans (hb2.mono (by simp; omega)))
    clear hb2 hz2 hy2 HZ HY HS
    rcases hfd with ⟨rfl, hi, hk⟩ | ⟨rfl, hk⟩
    · have hres : res = some (d.getD i noP) := by rw [← HRes.out]; exact hk
      subst hres
      obtain ⟨x0, x1, x2, x3⟩ := (HR.out.below HB3.out).cells hi
      clear HRes hk HR
      obtain ⟨x, hx⟩ : ∃ x, d.getD i noP = x := ⟨_, rfl⟩
      have HX := Lib.hid hx
      rw [hx] at x0 x1 x2 x3
      clear hx
      have hiz : (i : Int) < (d.length : Int) := by omega
      go_wp2
      have hs := set3_block HZ2.out (.int .i64 x.t.kind) (.string x.t.name) (.slice x.a x.t.kids.length x.c)
      have hc := three_cells hs
      refine bodyPost_ret (v := .tuple #[.agg #[.int .i64 x.t.kind, .string x.t.name, .slice x.a x.t.kids.length x.c], .bool true]) (by simp [results, Tryz.results65, go_sem, hc.1, hc.2.1, hc.2.2]) rfl ⟨by rw [HX.out]; rfl, ?_⟩
      exact ((HB3.out.setCell (p := ⟨w.heap.size + 1, 0, none⟩) (Nat.le_succ _) _).setCell (p := ⟨w.heap.size + 1, 1, none⟩) (Nat.le_succ _) _).setCell (p := ⟨w.heap.size + 1, 2, none⟩) (Nat.le_succ _) _
    · have hres : res = none := by rw [← HRes.out]; exact hk
      subst hres
      clear HRes hk HR
      go_wp2
      have hs := set3_block HZ2.out (.int .i64 0) (.string ⟨#[]⟩) (.slice none 0 0)
      have hc := three_cells hs
      refine bodyPost_ret (v := .tuple #[.agg #[.int .i64 0, .string ⟨#[]⟩, .slice none 0 0], .bool false]) (by simp [results, Tryz.results65, go_sem, hc.1, hc.2.1, hc.2.2]) rfl ⟨rfl, ?_⟩
      exact ((HB3.out.setCell (p := ⟨w.heap.size + 1, 0, none⟩) (Nat.le_succ _) _).setCell (p := ⟨w.heap.size + 1, 1, none⟩) (Nat.le_succ _) _).setCell (p := ⟨w.heap.size + 1, 2, none⟩) (Nat.le_succ _) _
end Go.Proofs.YtjnlchhikdfifaaGreatDoor
/- own, (Subst).Apply. -/
namespace Go.Proofs.YtjnlchhikdfifaaGreatDoor
open Go.RowKit Go.Sort Go.Lib
attribute [local go_sem] Oper.semAt_some

/-- A type in memory of its own. -/
def ResT (N : Nat) (t : T) (e : Ending) (w' : World) : Prop := ∃ a c, e = .returned (tyV t (.slice a t.kids.length c)) ∧ TyIn (fun k => N ≤ k) w' t (.slice a t.kids.length c)
def OwnS (t : T) : Prop := ∀ (a : Option Addr) (c : Nat) (w : World), TysAt w (.slice a t.kids.length c) t.kids →
    Calls Tryz.prog 66 #[tyV t (.slice a t.kids.length c)] w fun e w' => ResT w.heap.size t e w' ∧ Below w.heap.size w w'
def AppOK (d : List PR) (t : T) : Prop := ∀ (v : Value) (a : Option Addr) (c : Nat) (w : World), SubAt v d w → TysAt w (.slice a t.kids.length c) t.kids →
    Calls Tryz.prog 41 #[.agg #[v], tyV t (.slice a t.kids.length c)] w fun e w' => ResT w.heap.size (app d t) e w' ∧ Below w.heap.size w w'
theorem sub_nil (w : World) (a : Option Addr) (c : Nat) (h : a = none → c = 0) : SubAt (.slice a 0 c) [] w := ⟨⟨.inl ⟨rfl, a, c, rfl, h⟩, gath_nil.neat⟩, fun x hx => by cases hx⟩
theorem below_two (w : World) (o1 o2 : Obj) : Below w.heap.size w ((w.alloc o1).alloc o2) := ((Below.refl _ w).alloc (Nat.le_refl _) _).alloc (by simp) _
theorem set3_others {W : World} {r k : Nat} (x y z : Value) (hk : k ≠ r) : (((W.setCell ⟨r, 0, none⟩ x).setCell ⟨r, 1, none⟩ y).setCell ⟨r, 2, none⟩ z).heap[k]? = W.heap[k]? :=
  (Below.heap_setCell _ ⟨r, 2, none⟩ _ k hk).trans ((Below.heap_setCell _ ⟨r, 1, none⟩ _ k hk).trans (Below.heap_setCell _ ⟨r, 0, none⟩ _ k hk))
theorem below_set3 {N : Nat} {w W : World} (h : Below N w W) {r : Nat} (hr : N ≤ r) (x y z : Value) : Below N w (((W.setCell ⟨r, 0, none⟩ x).setCell ⟨r, 1, none⟩ y).setCell ⟨r, 2, none⟩ z) :=
  ((h.setCell (p := ⟨r, 0, none⟩) hr x).setCell (p := ⟨r, 1, none⟩) hr y).setCell (p := ⟨r, 2, none⟩) hr z

theorem new_two (w : World) (o1 o2 : Obj) : ((w.alloc o1).alloc o2).heap[w.heap.size + 1]? = some o2 := by
  have := alloc_new (w.alloc o1) o2
  simpa using this

set_option maxRecDepth 100000 in
set_option maxHeartbeats 1000000 in
theorem own_of (t : T) (H : AppOK [] t) : OwnS t := by
  intro a c w h
  have HC := Lib.hid (fun o1 o2 => H (.slice none 0 0) a c ((w.alloc o1).alloc o2) (sub_nil _ _ _ (fun _ => rfl)) (h.keep ((keepT_alloc w o1).trans (keepT_alloc _ o2))))
  rw [app_nil] at HC
  clear H h
  simp only [tyV] at HC ⊢
  go_enter Tryz.func66, Tryz.ntmps66
  go_wp2_with (go_at_call 41; refine (HC.out _ _).mono ?_)
  rintro e w2 ⟨⟨a2, c2, rfl, hin⟩, hb⟩
  have hz2 := (hb.block (w.heap.size + 1) (by simp)).trans (new_two w _ _)
  obtain ⟨z0, z1, z2⟩ := three_cells hz2
  have u0 := Lib.frozen_of_heap hz2 0
  have u1 := Lib.frozen_of_heap hz2 1
  have u2 := Lib.frozen_of_heap hz2 2
  have HZ := Lib.hid hz2
  have HI := Lib.hid hin
  have HB := Lib.hid ((below_two w _ _).trans (hb.mono (by simp; omega)))
  clear hz2 hin hb HC
  simp only [tyV]
  go_wp2
  have hc := three_cells (set3_block HZ.out (.int .i64 t.kind) (.string t.name) (.slice a2 t.kids.length c2))
  refine bodyPost_ret (v := .agg #[.int .i64 t.kind, .string t.name, .slice a2 t.kids.length c2]) (by simp [results, Tryz.results66, go_sem, hc.1, hc.2.1, hc.2.2]) rfl ⟨⟨a2, c2, rfl, ?_⟩, below_set3 HB.out (Nat.le_succ _) _ _ _⟩
  refine (HI.out.keep fun k _ _ hk hh => (set3_others _ _ _ ?_).trans hh).mono fun k hk => ?_
  · have : w.heap.size + 1 + 1 ≤ k := by simpa using hk
    omega
  · have : w.heap.size + 1 + 1 ≤ k := by simpa using hk
    omega

theorem new_three (w : World) (o1 o2 o3 : Obj) : (((w.alloc o1).alloc o2).alloc o3).heap[w.heap.size]? = some o1 ∧ (((w.alloc o1).alloc o2).alloc o3).heap[w.heap.size + 1]? = some o2 ∧ (((w.alloc o1).alloc o2).alloc o3).heap[w.heap.size + 1 + 1]? = some o3 := by
  refine ⟨?_, ?_, ?_⟩
  · rw [Below.heap_alloc _ _ _ (by simp; omega), Below.heap_alloc _ _ _ (by simp)]; exact alloc_new w _
  · rw [Below.heap_alloc _ _ _ (by simp)]
    have := alloc_new (w.alloc o1) o2
    simpa using this
  · have := alloc_new ((w.alloc o1).alloc o2) o3
    simpa using this
theorem below_three (w : World) (o1 o2 o3 : Obj) : Below w.heap.size w (((w.alloc o1).alloc o2).alloc o3) := (((Below.refl _ w).alloc (Nat.le_refl _) _).alloc (by simp) _).alloc (by simp; omega) _

set_option maxRecDepth 100000 in
set_option maxHeartbeats 1000000 in
theorem app_leaf (d : List PR) (t : T) (h0 : t.kids = []) (hv : ∀ n, t ≠ .var n) (hk : (t.kind == 1) = false) : AppOK d t := by
  intro v a c w _ _
  obtain ⟨e1, e2, e3⟩ := app_parts d t hv
  have hl : t.kids.length = 0 := by rw [h0]; rfl
  have hl2 : (app d t).kids = [] := by rw [e3, h0]; rfl
  have HB := Lib.hid (below_three w)
  unfold ResT
  rw [hl, show (app d t).kids.length = 0 by rw [hl2]; rfl]
  simp only [tyV, e1, e2]
  clear e1 e2 e3 hl
  go_enter Tryz.func41, Tryz.ntmps41
  go_wp2
  refine bodyPost_ret (v := .agg #[.int .i64 t.kind, .string t.name, .slice none 0 0]) (by simp [results, Tryz.results41, go_sem]) rfl ⟨⟨none, 0, rfl, .leaf _ none 0 hl2⟩, HB.out _ _ _⟩

theorem app_var (d : List PR) (n : ByteArray) (hl : d.length < 1152921504606846976) (H : ∀ x, lk n d = some x → OwnS x.t) : AppOK d (.var n) := by
  intro v a c w hs _
  have HB := Lib.hid (below_three w)
  have HF := Lib.hid (fun o1 o2 o3 => find_any v d n (((w.alloc o1).alloc o2).alloc o3) (hs.below (HB.out o1 o2 o3)) hl)
  have HN := Lib.hid (new_three w)
  show Calls _ _ #[_, tyV (.var n) (.slice a 0 c)] _ _
  cases hk : lk n d with
  | none =>
    rw [hk] at HF
    have ha : app d (.var n) = .var n := by rw [app, ty, hk]; rfl
    rw [ha]
    unfold ResT
    simp only [show (T.var n).kids.length = 0 from rfl, tyV, show (T.var n).kind = 1 from rfl, show (T.var n).name = n from rfl, fv', Option.isSome] at HF ⊢
    clear ha hk H hs
    go_enter Tryz.func41, Tryz.ntmps41
    go_wp2_with fail
    go_wp2_with (go_at_call 65; refine (HF.out _ _ _).mono ?_)
    rintro e w2 ⟨rfl, hb⟩
    obtain ⟨_, n1, n2⟩ := HN.out (.cells #[v] 73) (.cells #[.int .i64 1, .string n, .slice a 0 c] 31) (.cells #[.int .i64 0, .string ⟨#[]⟩, .slice none 0 0] 31)
    have m1 := (hb.block (w.heap.size + 1) (by simp)).trans n1
    have m2 := (hb.block (w.heap.size + 1 + 1) (by simp)).trans n2
    have HB2 := Lib.hid ((HB.out _ _ _).trans (hb.mono (by simp; omega)))
    obtain ⟨y0, y1, y2⟩ := three_cells m1
    obtain ⟨z0, z1, z2⟩ := three_cells m2
    have v2 := Lib.frozen_of_heap m1 2
    have u0 := Lib.frozen_of_heap m2 0
    have u1 := Lib.frozen_of_heap m2 1
    have u2 := Lib.frozen_of_heap m2 2
    have l1 := (Array.getElem?_eq_some_iff.1 m1).1
    have l2 := (Array.getElem?_eq_some_iff.1 m2).1
    have M2 := Lib.hid m2
    clear hb n1 n2 m1 m2 HF HN
    go_wp2
    have hfin : ∀ o : Obj, (((((w2.setCell ⟨w.heap.size + 1, 2, none⟩ (.slice none 0 0)).setCell ⟨w.heap.size + 1 + 1, 0, none⟩ (.int .i64 1)).setCell ⟨w.heap.size + 1 + 1, 1, none⟩ (.string n)).setCell ⟨w.heap.size + 1 + 1, 2, none⟩ (.slice none 0 0)).alloc o).heap[w.heap.size + 1 + 1]? = some (.cells #[.int .i64 1, .string n, .slice none 0 0] 31 (0, 0)) := fun o => by
      rw [Below.heap_alloc _ _ _ (by simp; omega)]
      exact set3_block ((Below.heap_setCell _ ⟨w.heap.size + 1, 2, none⟩ _ _ (by show w.heap.size + 1 + 1 ≠ w.heap.size + 1; omega)).trans M2.out) _ _ _
    have hc := three_cells (hfin (.cells #[.int .i64 0, .string ⟨#[]⟩, .slice none 0 0] 31))
    refine bodyPost_ret (v := .agg #[.int .i64 1, .string n, .slice none 0 0]) (by simp [results, Tryz.results41, go_sem, hc.1, hc.2.1, hc.2.2]) rfl ⟨⟨none, 0, rfl, .leaf _ none 0 rfl⟩, ?_⟩
    exact (below_set3 (HB2.out.setCell (p := ⟨w.heap.size + 1, 2, none⟩) (by show w.heap.size ≤ w.heap.size + 1; omega) _) (by omega) _ _ _).alloc (by simp; omega) _
  | some x =>
    rw [hk] at HF
    have hx := H x hk
    have hxt := hs.2 x (lk_name hk).1
    have ha : app d (.var n) = x.t := by rw [app, ty, hk]; rfl
    rw [ha]
    have HO := Lib.hid (fun (W : World) (k : KeepT w W) => hx x.a x.c W (hxt.keep k))
    simp only [tyV, show (T.var n).kind = 1 from rfl, show (T.var n).name = n from rfl, fv', Option.isSome] at HF HO ⊢
    clear ha hk H hs hx hxt
    go_enter Tryz.func41, Tryz.ntmps41
    go_wp2_with (go_at_call 65; refine (HF.out _ _ _).mono ?_)
    rintro e w2 ⟨rfl, hb⟩
    obtain ⟨_, _, n2⟩ := HN.out (.cells #[v] 73) (.cells #[.int .i64 1, .string n, .slice a 0 c] 31) (.cells #[.int .i64 0, .string ⟨#[]⟩, .slice none 0 0] 31)
    have m2 := (hb.block (w.heap.size + 1 + 1) (by simp)).trans n2
    have HB2 := Lib.hid ((HB.out _ _ _).trans (hb.mono (by simp; omega)))
    have l2 := (Array.getElem?_eq_some_iff.1 m2).1
    have M2 := Lib.hid m2
    clear hb n2 m2 HF HN
    go_wp2_with (go_at_call 66; refine (HO.out _ ?kk).mono ?_; (case kk => exact (KeepT.of_below HB2.out).trans (keepT_alloc _ _)))
    rintro e w3 ⟨⟨a3, c3, rfl, hin⟩, hb3⟩
    have m3 := (hb3.block (w.heap.size + 1 + 1) (by simp; omega)).trans ((Below.heap_alloc w2 _ _ l2).trans M2.out)
    obtain ⟨z0, z1, z2⟩ := three_cells m3
    have u0 := Lib.frozen_of_heap m3 0
    have u1 := Lib.frozen_of_heap m3 1
    have u2 := Lib.frozen_of_heap m3 2
    have M3 := Lib.hid m3
    have HI := Lib.hid hin
    have HB3 := Lib.hid ((HB2.out.alloc HB2.out.size (.cells #[.int .i64 x.t.kind, .string x.t.name, .slice x.a x.t.kids.length x.c] 31)).trans (hb3.mono (by simp; omega)))
    clear m3 hin hb3 HO
    simp only [tyV]
    go_wp2
    have hc := three_cells (set3_block M3.out (.int .i64 x.t.kind) (.string x.t.name) (.slice a3 x.t.kids.length c3))
    refine bodyPost_ret (v := .agg #[.int .i64 x.t.kind, .string x.t.name, .slice a3 x.t.kids.length c3]) (by simp [results, Tryz.results41, go_sem, hc.1, hc.2.1, hc.2.2]) rfl ⟨⟨a3, c3, rfl, ?_⟩, below_set3 HB3.out (by omega) _ _ _⟩
    refine (HI.out.keep fun k _ _ hk hh => (set3_others _ _ _ ?_).trans hh).mono fun k hk => ?_
    · have : w2.heap.size + 1 ≤ k := by simpa using hk
      omega
    · have : w2.heap.size + 1 ≤ k := by simpa using hk
      omega

theorem set3_others' {W : World} {r o k : Nat} (x y z : Value) (hk : k ≠ r) : (((W.setCell ⟨r, o, none⟩ x).setCell ⟨r, o + 1, none⟩ y).setCell ⟨r, o + 2, none⟩ z).heap[k]? = W.heap[k]? :=
  (Below.heap_setCell _ ⟨r, o + 2, none⟩ _ k hk).trans ((Below.heap_setCell _ ⟨r, o + 1, none⟩ _ k hk).trans (Below.heap_setCell _ ⟨r, o, none⟩ _ k hk))
theorem below_set3' {N : Nat} {w W : World} (h : Below N w W) {r o : Nat} (hr : N ≤ r) (x y z : Value) : Below N w (((W.setCell ⟨r, o, none⟩ x).setCell ⟨r, o + 1, none⟩ y).setCell ⟨r, o + 2, none⟩ z) :=
  ((h.setCell (p := ⟨r, o, none⟩) hr x).setCell (p := ⟨r, o + 1, none⟩) hr y).setCell (p := ⟨r, o + 2, none⟩) hr z
theorem row_new (w : World) (n : Nat) (o1 o2 o3 : Obj) : ((((w.alloc o1).alloc o2).alloc o3).alloc (.cells (zeros n) 31)).heap[w.heap.size + 1 + 1 + 1]? = some (.cells (zeros n) 31 (0, 0)) := by
  have := alloc_new (((w.alloc o1).alloc o2).alloc o3) (.cells (zeros n) 31)
  simpa using this
theorem below_four (w : World) (o1 o2 o3 o4 : Obj) : Below w.heap.size w ((((w.alloc o1).alloc o2).alloc o3).alloc o4) := (below_three w o1 o2 o3).alloc (by simp; omega) _
theorem new_four (w : World) (o1 o2 o3 o4 : Obj) : ((((w.alloc o1).alloc o2).alloc o3).alloc o4).heap[w.heap.size]? = some o1 ∧ ((((w.alloc o1).alloc o2).alloc o3).alloc o4).heap[w.heap.size + 1]? = some o2 ∧ ((((w.alloc o1).alloc o2).alloc o3).alloc o4).heap[w.heap.size + 1 + 1]? = some o3 := by
  obtain ⟨h1, h2, h3⟩ := new_three w o1 o2 o3
  refine ⟨?_, ?_, ?_⟩
  · rw [Below.heap_alloc _ _ _ (by simp; omega)]; exact h1
  · rw [Below.heap_alloc _ _ _ (by simp)]; exact h2
  · rw [Below.heap_alloc _ _ _ (by simp)]; exact h3

set_option maxRecDepth 100000 in
set_option maxHeartbeats 4000000 in
theorem app_step (d : List PR) (t : T) (H : ∀ k ∈ t.kids, AppOK d k) (hn : t.kids.length ≤ 1000000000) (h0 : t.kids ≠ []) (hv : ∀ n, t ≠ .var n) (hk : (t.kind == 1) = false) : AppOK d t := by
  intro v a c w hs h
  obtain ⟨e1, e2, e3⟩ := app_parts d t hv
  obtain ⟨g, cap, e, hg, hcap, hrow⟩ := h.row h0
  cases e
  have HR := Lib.hid hrow
  have HS := Lib.hid H
  have HSub := Lib.hid hs
  have h0' : ((t.kids.length : Int) == 0) = false := by simpa using h0
  have h0n : ¬ ((t.kids.length : Int) = 0) := by simpa using h0
  have hlen : (app d t).kids.length = t.kids.length := by rw [e3]; simp
  have E3 := Lib.hid e3
  clear hrow H h h0 hs e3
  have hmk := make_row3 t.kids.length hn
  unfold ResT
  rw [hlen]
  simp only [tyV, e1, e2]
  clear e1 e2
  go_enter Tryz.func41, Tryz.ntmps41
  go_wp2
  go_loopw [36] (fun vi wr => ∃ i : Nat, i ≤ t.kids.length ∧ vi = .int .i64 i ∧ Hid (Below w.heap.size w wr) ∧
      wr.heap[w.heap.size]? = some (.cells #[v] 73 (0, 0)) ∧
      wr.heap[w.heap.size + 1]? = some (.cells #[.int .i64 t.kind, .string t.name, .slice (some ⟨g, 0, none⟩) t.kids.length c] 31 (0, 0)) ∧
      wr.heap[w.heap.size + 1 + 1]? = some (.cells #[.int .i64 0, .string ⟨#[]⟩, .slice none 0 0] 31 (0, 0)) ∧ Hid (RowTo (w.heap.size + 1 + 1 + 1) (w.heap.size + 1 + 1 + 1) (t.kids.map (app d)) i wr)) (fun vi _ => t.kids.length - (intOf vi).toNat)
  case atStart =>
    obtain ⟨n1, n2, n3⟩ := new_four w (.cells #[v] 73) (.cells #[.int .i64 t.kind, .string t.name, .slice (some ⟨g, 0, none⟩) t.kids.length c] 31) (.cells #[.int .i64 0, .string ⟨#[]⟩, .slice none 0 0] 31) (.cells (zeros t.kids.length) 31)
    refine ⟨0, Nat.zero_le _, rfl, Lib.hid (below_four w _ _ _ _), n1, n2, n3, Lib.hid (RowTo.start _ _ _ _ ?_)⟩
    rw [List.length_map]
    exact row_new w _ _ _ _
  case round =>
    obtain ⟨i, hi, rfl, hB, hb0, hb1, hb2, hRow⟩ := hrel
    by_cases hlt : i < t.kids.length
    · obtain ⟨pa, ca, x0, x1, x2, xk⟩ := HR.out i hlt
      have f1 := fun o => hB.out.cell (p := ⟨g, o, none⟩) hg
      rw [← f1] at x0 x1 x2
      have hgr : g < wr.heap.size := Nat.lt_of_lt_of_le hg hB.out.size
      have HC := Lib.hid (fun o => HS.out t.kids[i] (List.getElem_mem hlt) v pa ca (wr.alloc o) ((HSub.out.below hB.out).below ((Below.refl _ wr).alloc (Nat.le_refl _) o)) (xk.keep ((KeepT.of_below hB.out).trans (keepT_alloc wr o))))
      have HN := Lib.hid (fun (W : World) (u : Value) (h : RowTo (w.heap.size + 1 + 1 + 1) (w.heap.size + 1 + 1 + 1) (t.kids.map (app d)) i W) (hv : TyIn (fun k => (w.heap.size + 1 + 1 + 1 ≤ k ∧ k ≠ w.heap.size + 1 + 1 + 1) ∧ k < W.heap.size) W (app d t.kids[i]) u) => h.next (by simpa using hlt) (by simpa using hv))
      simp only [List.getElem_map] at HN
      generalize hku : t.kids[i] = u at x0 x1 x2 HC HN
      unfold ResT at HC
      generalize app d u = u' at HC HN
      simp only [tyV] at HC
      have hGlt : w.heap.size + 1 + 1 + 1 < wr.heap.size := by obtain ⟨cs, z, h1, _⟩ := hRow.out; exact (Array.getElem?_eq_some_iff.1 h1).1
      have y0 : wr.cell? ⟨w.heap.size, 0, none⟩ = some v := by rw [Lib.cell_of_heap hb0]; rfl
      have l0 : w.heap.size < wr.heap.size := by omega
      clear f1 xk hku HR
      go_wp2_with (go_at_call 41; refine (HC.out _).mono ?_)
      rintro e w2 ⟨⟨a', c', rfl, hIn⟩, hb⟩
      have hRow2 := (hRow.out.below ((Below.refl _ wr).alloc (Nat.le_refl _) _)).below hb
      obtain ⟨z0, z1, z2, c0, c1, c2, f0, f1, f2⟩ := hRow2.cells (by simpa using hlt)
      have HR2 := Lib.hid (HN.out _ _ hRow2 ((hIn.lt).mono (fun k hk => ⟨⟨by have := hk.1; simp at this; omega, by have := hk.1; simp at this; omega⟩, hk.2⟩)))
      have HB2 := Lib.hid (hB.out.trans (((Below.refl wr.heap.size wr).alloc (Nat.le_refl _) (.cells #[.int .i64 u.kind, .string u.name, .slice pa u.kids.length ca] 31)).trans (hb.mono (by simp)) |>.mono hB.out.size))
      have hsz2 : wr.heap.size + 1 ≤ w2.heap.size := by have := hb.size; simpa using this
      have b0 := (hb.block w.heap.size (by simp; omega)).trans ((Below.heap_alloc wr _ _ (by omega)).trans hb0)
      have b1 := (hb.block (w.heap.size + 1) (by simp; omega)).trans ((Below.heap_alloc wr _ _ (by omega)).trans hb1)
      have b2 := (hb.block (w.heap.size + 1 + 1) (by simp; omega)).trans ((Below.heap_alloc wr _ _ (by omega)).trans hb2)
      have HB0 := Lib.hid b0; have HB1 := Lib.hid b1; have HBz := Lib.hid b2
      clear b0 b1 b2 hIn hb hRow2 HN hb0 hb1 hb2 hRow hB HC x0 x1 x2 y0
      dsimp only [tyV]
      go_wp2
      go_roundw
      case rel => exact ⟨i + 1, by omega, by go_num, Lib.hid (below_set3' HB2.out (by omega) _ _ _), (set3_others' _ _ _ (by omega)).trans HB0.out, (set3_others' _ _ _ (by omega)).trans HB1.out, (set3_others' _ _ _ (by omega)).trans HBz.out, HR2⟩
      case measure => simp [intOf]; omega
    · obtain rfl : i = t.kids.length := by omega
      obtain ⟨c0, c1, c2⟩ := three_cells hb1
      obtain ⟨d0, d1, d2⟩ := three_cells hb2
      have a2 := Lib.frozen_of_heap hb1 2
      have e0 := Lib.frozen_of_heap hb2 0
      have e1 := Lib.frozen_of_heap hb2 1
      have e2 := Lib.frozen_of_heap hb2 2
      have hrw : RowTo (w.heap.size + 1 + 1 + 1) (w.heap.size + 1 + 1 + 1) (t.kids.map (app d)) (t.kids.map (app d)).length wr := by rw [List.length_map]; exact hRow.out
      have HD := Lib.hid (hrw.done E3.out (w.heap.size))
      rw [List.length_map] at HD
      have HB1 := Lib.hid hb2
      clear hb0 hb1 hb2 HR HS hmk hrw hRow
      go_wp2
      have h2 := (Below.heap_setCell wr ⟨w.heap.size + 1, 2, none⟩ (.slice (some ⟨w.heap.size + 1 + 1 + 1, 0, none⟩) t.kids.length t.kids.length) (w.heap.size + 1 + 1) (by show w.heap.size + 1 + 1 ≠ w.heap.size + 1; omega)).trans HB1.out
      have hc := three_cells (set3_block h2 (.int .i64 t.kind) (.string t.name) (.slice (some ⟨w.heap.size + 1 + 1 + 1, 0, none⟩) t.kids.length t.kids.length))
      refine bodyPost_ret (v := .agg #[.int .i64 t.kind, .string t.name, .slice (some ⟨w.heap.size + 1 + 1 + 1, 0, none⟩) t.kids.length t.kids.length]) (by simp [results, Tryz.results41, go_sem, hc.1, hc.2.1, hc.2.2]) rfl ⟨⟨some ⟨w.heap.size + 1 + 1 + 1, 0, none⟩, t.kids.length, rfl, HD.out _ (by omega) ?_⟩, ?_⟩
      · intro k hk
        exact (set3_others _ _ _ (by omega)).trans (Below.heap_setCell _ ⟨w.heap.size + 1, 2, none⟩ _ _ (by show k ≠ w.heap.size + 1; omega))
      · exact below_set3 (hB.out.setCell (p := ⟨w.heap.size + 1, 2, none⟩) (by show w.heap.size ≤ w.heap.size + 1; omega) _) (by omega) _ _ _

theorem kind_one {t : T} (hv : ∀ n, t ≠ .var n) : (t.kind == 1) = false := by
  cases t with
  | var n => exact absurd rfl (hv n)
  | con n l => rfl
  | fn a b => rfl
  | all n a => rfl
theorem app_ok (d : List PR) (hl : d.length < 1152921504606846976) (H : ∀ n x, lk n d = some x → OwnS x.t) (t : T) (h : tsize t ≤ 1000000000) : AppOK d t := by
  by_cases hv : ∃ n, t = .var n
  · obtain ⟨n, rfl⟩ := hv
    exact app_var d n hl (H n)
  · have hv' : ∀ n, t ≠ .var n := fun n e => hv ⟨n, e⟩
    by_cases h0 : t.kids = []
    · exact app_leaf d t h0 hv' (kind_one hv')
    · exact app_step d t (fun k hk => app_ok d hl H k ((kids_small h).2 k hk)) (kids_small h).1 h0 hv' (kind_one hv')
termination_by SizeOf.sizeOf t
decreasing_by exact T.kid_size hk
theorem own_ok (t : T) (h : tsize t ≤ 1000000000) : OwnS t := own_of t (app_ok [] (by decide) (fun n x hx => by cases hx) t h)
theorem own_any {t : T} {v : Value} {w : World} (hs : tsize t ≤ 1000000000) (h : TysAt w v t.kids) :
    Calls Tryz.prog 66 #[tyV t v] w fun e w' => ResT w.heap.size t e w' ∧ Below w.heap.size w w' := by
  obtain ⟨a, c, rfl⟩ := h.shape
  exact own_ok t hs a c w h
/-- No type of a row is greater than so. -/
def SizedAll (d : List PR) : Prop := ∀ x ∈ d, tsize x.t ≤ 1000000000
theorem apply_any {d : List PR} {t : T} {s v : Value} {w : World} (hl : d.length < 1152921504606846976) (hd : SizedAll d) (ht : tsize t ≤ 1000000000) (hs : SubAt s d w) (h : TysAt w v t.kids) :
    Calls Tryz.prog 41 #[.agg #[s], tyV t v] w fun e w' => ResT w.heap.size (app d t) e w' ∧ Below w.heap.size w w' := by
  obtain ⟨a, c, rfl⟩ := h.shape
  exact app_ok d hl (fun n x hx => own_ok x.t (hd x (lk_name hx).1)) t ht s a c w hs h
end Go.Proofs.YtjnlchhikdfifaaGreatDoor
/- subst.Of: each variable its type, in memory of its own. -/
namespace Go.Proofs.YtjnlchhikdfifaaGreatDoor
open Go.RowKit Go.Sort Go.Lib
attribute [local go_sem] Oper.semAt_some

def cloneRen : Go.Shelf.Ren := ⟨fun | 41 => 76 | n => n, fun | 4 => 4 | 22 => 71 | 23 => 90 | n => n, fun n => n⟩
theorem cloneLay : SlLaysE0.n41 Tryz.prog cloneRen :=
  { mixed := by kernel_rfl
    f41 := ⟨Tryz.f76.name, by decide, by kernel_rfl⟩
    t4 := by kernel_rfl
    a4 := fun _ => by kernel_rfl
    z4 := fun _ => by kernel_rfl
    v4 := fun _ => by kernel_rfl
    t22 := by kernel_rfl
    a22 := fun _ => by kernel_rfl
    z22 := fun _ => by kernel_rfl
    v22 := fun _ => by kernel_rfl }
theorem Tryz.infoPair : (Tryz.prog.info? 90).map (fun i => (i.zero, i.size, i.bytes)) = some (some (.agg zeroP), 4, 64) := by kernel_rfl
theorem flat_one (d : List PR) : ∀ u ∈ (flatK encP 4 d.toArray).toList, u.oneCell' = true := by
  intro u hu
  simp only [flatK, Array.toList_map, List.mem_map] at hu
  obtain ⟨i, _, rfl⟩ := hu
  have h4 : i % 4 < (encP (d.toArray[i / 4]!)).length := Nat.mod_lt _ (by decide)
  rw [getElem!_pos (encP (d.toArray[i / 4]!)) (i % 4) h4]
  exact encP_one _ _ (List.getElem_mem _)
theorem clone_some (g cap : Nat) (d : List PR) (w : World) (h : RowP g d w) (h0 : d ≠ []) (hl : d.length ≤ 1000000) :
    Calls Tryz.prog 76 #[.slice (some ⟨g, 0, none⟩) d.length cap] w fun e w' =>
      (∃ g' cap', (e = .returned (.slice (some ⟨g', 0, none⟩) d.length cap') ∧ d.length ≤ cap') ∧ w.heap.size ≤ g' ∧ RowP g' d w') ∧ Below w.heap.size w w' := by
  obtain ⟨i, hi, hzz⟩ := Option.map_eq_some_iff.1 Tryz.infoPair
  simp only [Prod.mk.injEq] at hzz
  obtain ⟨hz, hs, hb⟩ := hzz
  have hfl : (flatK encP 4 d.toArray).toList.length = d.length * 4 := by simp
  have hm : (1000000 : Nat) ≤ maxLen := by decide
  have hc : ∀ j u, (flatK encP 4 d.toArray).toList[j]? = some u → w.cell? ⟨g, 0 + j, none⟩ = some u := by
    intro j u hu
    obtain ⟨hj, e⟩ := List.getElem?_eq_some_iff.1 hu
    have hj' : j < (flatK encP 4 d.toArray).size := by simpa using hj
    rw [(h.holds j hj').1, getElem!_pos _ j hj']
    simpa using e
  have main : Calls Tryz.prog 76 _ _ _ := AnyE.slices_Clone cloneLay i (.agg zeroP) 4 64 hi hz hs hb (by rfl) (by decide) (fun _ => by kernel_rfl) g 0 d.length cap (flatK encP 4 d.toArray).toList w hfl (by omega) (by omega) hc (flat_one d)
  refine main.mono ?_
  rintro e w' ⟨v', rfl, ⟨_, ⟨_, hn⟩ | ⟨g', cap', cur, rfl, hg', hcur, hcap, _, hsz, htk⟩⟩, _, hb⟩
  · exact absurd (List.length_eq_zero_iff.1 hn) h0
  · refine ⟨⟨g', cap', ⟨rfl, hcap⟩, hg', ⟨cur, hcur, ?_, fun k hk => ?_⟩⟩, hb⟩
    · rw [hsz]; exact Nat.mul_le_mul_right 4 hcap
    · have hbg : d.toArray[k]! = d.getD k noP := (getD_list d k hk).symm
      have key : ∀ c, c < 4 → cur[k * 4 + c]? = some ((encP (d.getD k noP))[c]!) := by
        intro c hc4
        have hlt : k * 4 + c < d.length * 4 := by omega
        have e1 : (cur.toList.take (d.length * 4))[k * 4 + c]? = cur[k * 4 + c]? := by rw [List.getElem?_take_of_lt hlt]; simp
        rw [← e1, htk]
        have hF : k * 4 + c < (flatK encP 4 d.toArray).size := by simpa using hlt
        have e2 := get_flatK encP 4 d.toArray (k * 4 + c) (by simpa using hlt)
        rw [show (k * 4 + c) / 4 = k by omega, show (k * 4 + c) % 4 = c by omega, hbg, getElem!_pos (flatK encP 4 d.toArray) (k * 4 + c) hF] at e2
        rw [List.getElem?_eq_getElem (by simpa using hlt), ← e2]
        simp
      exact ⟨by simpa [encP] using key 0 (by decide), key 1 (by decide), key 2 (by decide), key 3 (by decide)⟩
theorem clone_nil (w : World) : Calls Tryz.prog 76 #[.slice none 0 0] w fun e w' => e = .returned (.slice none 0 0) ∧ w' = w :=
  AnyE.slices_Clone_nil cloneLay 0 0 w

/-- One list in another's place: the same names and types, elsewhere. -/
def Copy (l m : List PR) : Prop := l.length = m.length ∧ ∀ i, i < l.length → (l.getD i noP).n = (m.getD i noP).n ∧ (l.getD i noP).t = (m.getD i noP).t
theorem Copy.refl (l : List PR) : Copy l l := ⟨rfl, fun _ _ => ⟨rfl, rfl⟩⟩
theorem Copy.cons {x y : PR} {l m : List PR} (h : Copy (x :: l) (y :: m)) : (x.n = y.n ∧ x.t = y.t) ∧ Copy l m := by
  obtain ⟨h1, h2⟩ := h
  refine ⟨by simpa [List.getD] using h2 0 (by simp), by simpa using h1, fun i hi => by simpa [List.getD] using h2 (i + 1) (by simpa using hi)⟩
theorem Copy.lk {n : ByteArray} : ∀ {l m : List PR}, Copy l m → (lk n l).map PR.t = (lk n m).map PR.t
  | [], [], _ => rfl
  | [], _ :: _, h => absurd h.1 (by simp)
  | _ :: _, [], h => absurd h.1 (by simp)
  | x :: l, y :: m, h => by
    obtain ⟨⟨h1, h2⟩, h3⟩ := h.cons
    rw [lk_cons, lk_cons, h1]
    by_cases e : y.n = n
    · rw [if_pos e, if_pos e]; simp [h2]
    · rw [if_neg e, if_neg e]; exact h3.lk
theorem Copy.mem : ∀ {l m : List PR}, Copy l m → ∀ x ∈ l, ∃ y ∈ m, x.n = y.n ∧ x.t = y.t
  | [], _, _, x, hx => by cases hx
  | _ :: _, [], h, _, _ => absurd h.1 (by simp)
  | z :: l, y :: m, h, x, hx => by
    obtain ⟨h1, h3⟩ := h.cons
    rcases List.mem_cons.1 hx with rfl | hx
    · exact ⟨y, List.mem_cons_self .., h1⟩
    · obtain ⟨u, hu, e⟩ := h3.mem x hx
      exact ⟨u, List.mem_cons_of_mem _ hu, e⟩
theorem Copy.sorted : ∀ {l m : List PR}, Copy l m → Sorted m → Sorted l
  | [], _, _, _ => List.Pairwise.nil
  | _ :: _, [], h, _ => absurd h.1 (by simp)
  | x :: l, y :: m, h, hs => by
    obtain ⟨⟨h1, _⟩, h3⟩ := h.cons
    have hs' := List.pairwise_cons.1 hs
    refine List.pairwise_cons.2 ⟨fun z hz => ?_, h3.sorted hs'.2⟩
    obtain ⟨u, hu, e, _⟩ := h3.mem z hz
    have := hs'.1 u hu
    unfold cmpP at this ⊢
    rw [h1, e]; exact this
theorem Copy.neat {l m : List PR} (h : Copy l m) (hn : Neat m) : Neat l := by
  refine ⟨h.sorted hn.1, fun x hx => ?_⟩
  obtain ⟨y, hy, e1, e2⟩ := h.mem x hx
  have := hn.2 y hy
  cases ho : ownP x with
  | false => rfl
  | true =>
    have h1 := ownP_iff.1 ho
    rw [e1, e2] at h1
    rw [ownP_iff.2 h1] at this
    cases this
/-- What is made of a list of pairs. -/
structure Made (d l : List PR) : Prop where
  sub : ∀ x ∈ l, ∃ y ∈ d, x.n = y.n ∧ x.t = y.t
  len : l.length ≤ d.length
  same : ∀ n, ty n l = ty n d
theorem Gath.made {d l m : List PR} (h : Gath d l) (k : Copy m l) : Made d m :=
  ⟨fun x hx => by obtain ⟨y, hy, e⟩ := k.mem x hx; exact ⟨y, h.sub y hy, e⟩, by rw [k.1]; exact h.len, fun n => by rw [← h.same n]; unfold ty; rw [k.lk]⟩

theorem RowP.setT {g : Nat} {l : List PR} {w : World} (h : RowP g l w) (i : Nat) (x : PR) (hn : i < l.length → (l.getD i noP).n = x.n) :
    RowP g (l.set i x) (((w.setCell ⟨g, i * 4 + 1, none⟩ (.int .i64 x.t.kind)).setCell ⟨g, i * 4 + 1 + 1, none⟩ (.string x.t.name)).setCell ⟨g, i * 4 + 1 + 2, none⟩ (.slice x.a x.t.kids.length x.c)) := by
  obtain ⟨cs, h1, h2, h3⟩ := h
  refine ⟨((cs.setIfInBounds (i * 4 + 1) (.int .i64 x.t.kind)).setIfInBounds (i * 4 + 1 + 1) (.string x.t.name)).setIfInBounds (i * 4 + 1 + 2) (.slice x.a x.t.kids.length x.c), blk_set (blk_set (blk_set h1 _) _) _, by simpa using h2, fun j hj => ?_⟩
  have hj' : j < l.length := by simpa using hj
  by_cases e : j = i
  · subst e
    have e2 : (l.set j x).getD j noP = x := by simp [List.getD, hj']
    rw [e2]
    obtain ⟨a1, _⟩ := h3 j hj'
    rw [hn hj'] at a1
    refine ⟨?_, ?_, ?_, ?_⟩
    · rw [Array.getElem?_setIfInBounds_ne (by omega), Array.getElem?_setIfInBounds_ne (by omega), Array.getElem?_setIfInBounds_ne (by omega)]; exact a1
    · rw [Array.getElem?_setIfInBounds_ne (by omega), Array.getElem?_setIfInBounds_ne (by omega)]; simp [Array.getElem?_setIfInBounds]; omega
    · rw [Array.getElem?_setIfInBounds_ne (by omega)]; simp [Array.getElem?_setIfInBounds]; omega
    · simp [Array.getElem?_setIfInBounds]; omega
  · have e2 : (l.set i x).getD j noP = l.getD j noP := by simp [List.getD, Ne.symm e]
    rw [e2]
    obtain ⟨a1, a2, a3, a4⟩ := h3 j hj'
    refine ⟨?_, ?_, ?_, ?_⟩
    · rw [Array.getElem?_setIfInBounds_ne (by omega), Array.getElem?_setIfInBounds_ne (by omega), Array.getElem?_setIfInBounds_ne (by omega)]; exact a1
    · rw [Array.getElem?_setIfInBounds_ne (by omega), Array.getElem?_setIfInBounds_ne (by omega), Array.getElem?_setIfInBounds_ne (by omega)]; exact a2
    · rw [Array.getElem?_setIfInBounds_ne (by omega), Array.getElem?_setIfInBounds_ne (by omega), Array.getElem?_setIfInBounds_ne (by omega)]; exact a3
    · rw [Array.getElem?_setIfInBounds_ne (by omega), Array.getElem?_setIfInBounds_ne (by omega), Array.getElem?_setIfInBounds_ne (by omega)]; exact a4
theorem Fr.setT (g i : Nat) (w : World) (x : PR) : Fr g w (((w.setCell ⟨g, i * 4 + 1, none⟩ (.int .i64 x.t.kind)).setCell ⟨g, i * 4 + 1 + 1, none⟩ (.string x.t.name)).setCell ⟨g, i * 4 + 1 + 2, none⟩ (.slice x.a x.t.kids.length x.c)) :=
  ⟨below_set3' (Below.refl 0 w) (o := i * 4 + 1) (Nat.zero_le _) _ _ _, fun _ _ hg => set3_others' (o := i * 4 + 1) _ _ _ hg⟩
theorem Copy.set {l m : List PR} (h : Copy l m) (i : Nat) (a : Option Addr) (c : Nat) : Copy (l.set i { l.getD i noP with a := a, c := c }) m := by
  refine ⟨by simpa using h.1, fun j hj => ?_⟩
  have hj' : j < l.length := by simpa using hj
  by_cases e : j = i
  · subst e
    have e2 : (l.set j { l.getD j noP with a := a, c := c }).getD j noP = { l.getD j noP with a := a, c := c } := by simp [List.getD, hj']
    rw [e2]
    exact h.2 j hj'
  · have e2 : (l.set i { l.getD i noP with a := a, c := c }).getD j noP = l.getD j noP := by simp [List.getD, Ne.symm e]
    rw [e2]
    exact h.2 j hj'

set_option maxRecDepth 100000 in
set_option maxHeartbeats 4000000 in
theorem of_some (g cap : Nat) (d : List PR) (w : World) (h : RowP g d w) (ht : Typ d w) (hf : FitsAll d) (hz : SizedAll d) (hl : d.length < 20) (h0 : d ≠ []) :
    Calls Tryz.prog 61 #[.slice (some ⟨g, 0, none⟩) d.length cap] w fun e w' => (∃ v l, e = .returned (.agg #[v]) ∧ SubAt v l w' ∧ Made d l) ∧ Below w.heap.size w w' := by
  have HC := Lib.hid (fun o => clone_some g cap d (w.alloc o) (h.below ((Below.refl _ w).alloc (Nat.le_refl _) o)) h0 (by omega))
  have HG := Lib.hid (fun g' cap' W (hr : RowP g' d W) (hk : KeepT w W) (hc : d.length ≤ cap') => gather_some g' cap' d W hr (ht.keep hk) hf hc hl h0)
  have HT := Lib.hid ht; have HZ := Lib.hid hz
  have HB := Lib.hid (fun o => (Below.refl _ w).alloc (Nat.le_refl _) o)
  clear h ht hf hz h0
  go_enter Tryz.func61, Tryz.ntmps61
  go_wp2_with (go_at_call 76; refine (HC.out _).mono ?_)
  rintro e w1 ⟨⟨g', cap', ⟨rfl, hc'⟩, hg', hr'⟩, hb1⟩
  have HR1 := Lib.hid hr'
  have HB1 := Lib.hid ((HB.out (.cells #[.slice none 0 0] 73)).trans (hb1.mono (by simp)))
  have b1 := (hb1.block w.heap.size (by simp)).trans (alloc_new w _)
  have HX1 := Lib.hid b1
  have hgw : w.heap.size + 1 ≤ g' := by simpa using hg'
  clear hr' hb1 b1 hg' HC HB
  go_wp2_with (go_at_call 75; refine (HG.out g' cap' _ HR1.out (KeepT.of_below HB1.out) hc').mono ?_)
  rintro e w2 ⟨⟨l, ⟨rfl, hlc⟩, hr2, hga⟩, hf2⟩
  have HB2 := Lib.hid (HB1.out.trans (hf2.below (N := w.heap.size) (by omega) HB1.out.size))
  have HX2 := Lib.hid ((hf2.2 w.heap.size (Array.getElem?_eq_some_iff.1 HX1.out).1 (by omega)).trans HX1.out)
  have HR2 := Lib.hid hr2
  have HGa := Lib.hid hga
  have HT2 : Hid (Typ l w2) := Lib.hid fun x hx => (HT.out x (hga.sub x hx)).keep ((KeepT.of_below HB1.out).trans (hf2.keepT HR1.out))
  have HZ2 : Hid (SizedAll l) := Lib.hid fun x hx => HZ.out x (hga.sub x hx)
  have hlen := hga.len
  clear hr2 hf2 HX1 HR1 HB1 HG HT HZ hga
  have hlz : l.length < 20 := by omega
  go_wp2
  have lw2 : w.heap.size < w2.heap.size := (Array.getElem?_eq_some_iff.1 HX2.out).1
  have lg2 : g' < w2.heap.size := HR2.out.lt
  go_loopw [12] (fun vi wr => ∃ (i : Nat) (ls : List PR), i ≤ l.length ∧ vi = .int .i64 i ∧ Hid (Copy ls l) ∧ Hid (RowP g' ls wr) ∧ Hid (Typ ls wr) ∧ Hid (Below w.heap.size w wr) ∧
    wr.heap[w2.heap.size]? = some (.cells #[.slice (some ⟨g', 0, none⟩) l.length cap'] 73 (0, 0)) ∧ wr.heap[w.heap.size]? = some (.cells #[.slice none 0 0] 73 (0, 0))) (fun vi _ => l.length - (intOf vi).toNat)
  case atStart =>
    refine ⟨0, l, Nat.zero_le _, rfl, Lib.hid (Copy.refl l), Lib.hid (HR2.out.below ((Below.refl _ w2).alloc (Nat.le_refl _) _)), Lib.hid (HT2.out.keep (keepT_alloc w2 _)), Lib.hid (HB2.out.alloc HB2.out.size _), alloc_new w2 _, ?_⟩
    rw [Below.heap_alloc _ _ _ lw2]; exact HX2.out
  case round =>
    obtain ⟨i, ls, hi, rfl, hCp, hRow, hTy, hB, hb3, hb0⟩ := hrel
    have hll := hCp.out.1
    by_cases hlt : i < l.length
    · obtain ⟨x0, x1, x2, x3⟩ := hRow.out.cells (i := i) (by omega)
      have hmem := getD_mem (d := ls) (i := i) (by omega)
      have htx := hTy.out _ hmem
      have hzx : tsize (ls.getD i noP).t ≤ 1000000000 := by obtain ⟨y, hy, _, e2⟩ := hCp.out.mem _ hmem; rw [e2]; exact HZ2.out y hy
      have HO := Lib.hid (fun (W : World) (k : KeepT wr W) => own_any (w := W) hzx (htx.keep k))
      have HCs := Lib.hid (fun a c => hCp.out.set i a c)
      have HRs := Lib.hid (fun (W : World) (hr : RowP g' ls W) (a : Option Addr) (c : Nat) => hr.setT i { ls.getD i noP with a := a, c := c } (fun _ => rfl))
      have HTs : Hid (∀ (W : World) (a : Option Addr) (c : Nat), Typ ls W → TysAt W (.slice a (ls.getD i noP).t.kids.length c) (ls.getD i noP).t.kids → Typ (ls.set i { ls.getD i noP with a := a, c := c }) W) := Lib.hid fun W a c h1 h2 y hy => by
        rcases List.mem_or_eq_of_mem_set hy with h | rfl
        · exact h1 y h
        · exact h2
      have y3 : wr.cell? ⟨w2.heap.size, 0, none⟩ = some (.slice (some ⟨g', 0, none⟩) l.length cap') := by rw [Lib.cell_of_heap hb3]; rfl
      have l3 := (Array.getElem?_eq_some_iff.1 hb3).1
      have lgr := hRow.out.lt
      have Hb3 := Lib.hid hb3; have Hb0 := Lib.hid hb0
      clear hmem htx hzx hb3 hb0
      generalize ls.getD i noP = x at *
      simp only [tyV] at HO
      have hiz : (i : Int) < (l.length : Int) := by omega
      go_wp2
      have hbx := alloc_new wr (.cells #[.string x.n, .int .i64 x.t.kind, .string x.t.name, .slice x.a x.t.kids.length x.c] 90)
      have hbl := (Below.refl _ wr).alloc (Nat.le_refl _) (.cells #[.string x.n, .int .i64 x.t.kind, .string x.t.name, .slice x.a x.t.kids.length x.c] 90)
      obtain ⟨V, hV⟩ : ∃ V, wr.alloc (.cells #[.string x.n, .int .i64 x.t.kind, .string x.t.name, .slice x.a x.t.kids.length x.c] 90) = V := ⟨_, rfl⟩
      rw [hV] at hbx hbl ⊢
      clear hV x0 x1 x2 x3
      have hb3V := (hbl.block _ l3).trans Hb3.out
      have y3V : V.cell? ⟨w2.heap.size, 0, none⟩ = some (.slice (some ⟨g', 0, none⟩) l.length cap') := by rw [Lib.cell_of_heap hb3V]; rfl
      obtain ⟨q0, q1, q2, q3⟩ := four_cells hbx
      have l3V := (Array.getElem?_eq_some_iff.1 hb3V).1
      have HbV := Lib.hid hbl
      have Hb3V := Lib.hid hb3V
      clear hbx hbl hb3V y3
      go_region_with (first
        | (go_at_call 66; refine (HO.out V.drew (KeepT.of_below HbV.out.drew)).mono ?_; rintro e w4 ⟨⟨a4, c4, rfl, hin⟩, hb4⟩; have HI4 := Lib.hid hin.tys; have HB4 := Lib.hid (HbV.out.trans ((Below.refl _ V).drew.trans hb4 |>.mono HbV.out.size)); have hR4 := Lib.hid (hRow.out.below HB4.out); obtain ⟨o0, o1, o2, o3⟩ := hR4.out.cells (i := i) (by omega); have f1 := hR4.out.free (i * 4 + 1); have f2 := hR4.out.free (i * 4 + 1 + 1); have f3 := hR4.out.free (i * 4 + 1 + 2); have y4 : w4.cell? ⟨w2.heap.size, 0, none⟩ = some (.slice (some ⟨g', 0, none⟩) l.length cap') := (by rw [Lib.cell_of_heap ((HB4.out.block _ l3).trans Hb3.out)]; rfl); have lg4 := hR4.out.lt; have l34 := Nat.lt_of_lt_of_le l3 HB4.out.size; clear hin hb4; simp only [tyV]))
      all_goals
        go_wp2
        have HF := Lib.hid (Fr.setT g' i w4 { x with a := a4, c := c4 })
        have HFw := Lib.hid ((Fr.of_below (g := g') HB4.out).trans HF.out)
        have HK : Hid (∀ k, k ≠ g' → k < wr.heap.size → ((((w4.setCell ⟨g', i * 4 + 1, none⟩ (.int .i64 x.t.kind)).setCell ⟨g', i * 4 + 1 + 1, none⟩ (.string x.t.name)).setCell ⟨g', i * 4 + 1 + 2, none⟩ (.slice a4 x.t.kids.length c4))).heap[k]? = wr.heap[k]?) := Lib.hid fun k hk hkl => HFw.out.2 k hkl hk
        go_roundw
        case rel => exact ⟨i + 1, ls.set i { x with a := a4, c := c4 }, by omega, by go_num, Lib.hid (HCs.out a4 c4), Lib.hid (HRs.out w4 hR4.out a4 c4), Lib.hid (HTs.out _ a4 c4 (hTy.out.keep (HFw.out.keepT hRow.out)) (HI4.out.keep (HF.out.keepT hR4.out))), Lib.hid (hB.out.trans (HFw.out.below (by omega) hB.out.size)), (HK.out _ (by omega) l3).trans Hb3.out, (HK.out _ (by omega) (Nat.lt_of_lt_of_le (by omega) (Nat.le_of_lt l3))).trans Hb0.out⟩
        case measure => simp [intOf]; omega
    · obtain rfl : i = l.length := by omega
      have y3 : wr.cell? ⟨w2.heap.size, 0, none⟩ = some (.slice (some ⟨g', 0, none⟩) l.length cap') := by rw [Lib.cell_of_heap hb3]; rfl
      have y0 : wr.cell? ⟨w.heap.size, 0, none⟩ = some (.slice none 0 0) := by rw [Lib.cell_of_heap hb0]; rfl
      have y1 := Lib.frozen_of_heap hb0 0
      have Hb0 := Lib.hid hb0
      clear hb3 hb0
      go_wp2
      have hs := blk_set (o := 0) Hb0.out (.slice (some ⟨g', 0, none⟩) l.length cap')
      have hc0 : (wr.setCell ⟨w.heap.size, 0, none⟩ (.slice (some ⟨g', 0, none⟩) l.length cap')).cell? ⟨w.heap.size, 0, none⟩ = some (.slice (some ⟨g', 0, none⟩) l.length cap') := by rw [Lib.cell_of_heap hs]; rfl
      refine bodyPost_ret (v := .agg #[.slice (some ⟨g', 0, none⟩) l.length cap']) (by simp [results, Tryz.results61, go_sem, hc0]) rfl ⟨⟨_, ls, rfl, ⟨⟨.inr ⟨g', cap', by rw [hll], by omega, hRow.out.same (Below.heap_setCell _ ⟨w.heap.size, 0, none⟩ _ _ (by show g' ≠ w.heap.size; omega))⟩, hCp.out.neat HGa.out.neat⟩, hTy.out.keep ?_⟩, HGa.out.made hCp.out⟩, hB.out.setCell (p := ⟨w.heap.size, 0, none⟩) (Nat.le_refl _) _⟩
      intro k cs fz hk
      refine (Below.heap_setCell _ ⟨w.heap.size, 0, none⟩ _ k ?_).trans hk
      rintro rfl
      have := Hb0.out
      rw [hk] at this
      simp at this

theorem of_nil (w : World) :
    Calls Tryz.prog 61 #[.slice none 0 0] w fun e w' => (∃ v l, e = .returned (.agg #[v]) ∧ SubAt v l w' ∧ Made [] l) ∧ Below w.heap.size w w' := by
  have HB := Lib.hid (fun o => (Below.refl _ w).alloc (Nat.le_refl _) o)
  go_enter Tryz.func61, Tryz.ntmps61
  go_wp2_with (go_at_call 76; refine (clone_nil _).mono ?_; rintro e w1 ⟨rfl, rfl⟩)
  go_wp2_with (go_at_call 75; refine (gather_none none 0 _).mono ?_)
  rintro e w2 ⟨rfl, hb⟩
  have b2 := (hb.block w.heap.size (by simp)).trans (alloc_new w _)
  have HB2 := Lib.hid ((HB.out _).trans (hb.mono (by simp)))
  have y0 : w2.cell? ⟨w.heap.size, 0, none⟩ = some (.slice none 0 0) := by rw [Lib.cell_of_heap b2]; rfl
  have y1 := Lib.frozen_of_heap b2 0
  have l2 := (Array.getElem?_eq_some_iff.1 b2).1
  have Hb := Lib.hid b2
  clear hb b2 HB
  go_wp2
  refine wp_loop_rounds 1 ?_
  rw [rounds_succ]
  go_wp2
  have hs : ∀ o : Obj, ((w2.setCell ⟨w.heap.size, 0, none⟩ (.slice none 0 0)).alloc o).heap[w.heap.size]? = some (.cells #[.slice none 0 0] 73 (0, 0)) := fun o => by
    rw [Below.heap_alloc _ _ _ (by simpa using l2)]; exact blk_set (o := 0) Hb.out (.slice none 0 0)
  have hc0 : ((w2.setCell ⟨w.heap.size, 0, none⟩ (.slice none 0 0)).alloc (.cells #[.slice none 0 0] 73)).cell? ⟨w.heap.size, 0, none⟩ = some (.slice none 0 0) := by rw [Lib.cell_of_heap (hs _)]; rfl
  exact bodyPost_ret (v := .agg #[.slice none 0 0]) (by simp [results, Tryz.results61, go_sem, hc0]) rfl ⟨⟨_, [], rfl, sub_nil _ _ _ (fun _ => rfl), gath_nil.made (Copy.refl [])⟩, (HB2.out.setCell (p := ⟨w.heap.size, 0, none⟩) (Nat.le_refl _) _).alloc (by simp; omega) _⟩

/-- A list of pairs as it is handed in. -/
def GivenP (v : Value) (d : List PR) (w : World) : Prop := (d = [] ∧ v = .slice none 0 0) ∨ (d ≠ [] ∧ ∃ g cap, v = .slice (some ⟨g, 0, none⟩) d.length cap ∧ RowP g d w)
theorem of_any {v : Value} {d : List PR} {w : World} (h : GivenP v d w) (ht : Typ d w) (hf : FitsAll d) (hz : SizedAll d) (hl : d.length < 20) :
    Calls Tryz.prog 61 #[v] w fun e w' => (∃ v l, e = .returned (.agg #[v]) ∧ SubAt v l w' ∧ Made d l) ∧ Below w.heap.size w w' := by
  rcases h with ⟨rfl, rfl⟩ | ⟨h0, g, cap, rfl, hr⟩
  · exact of_nil w
  · exact of_some g cap d w hr ht hf hz hl h0
theorem app_congr {d d' : List PR} (h : ∀ n, ty n d = ty n d') : ∀ t, app d t = app d' t := by
  intro t
  match t with
  | .var n => rw [app, app]; exact h n
  | .con n l =>
    rw [app, app, apps_map, apps_map]
    congr 1
    exact List.map_congr_left fun k hk => app_congr h k
  | .fn a b => rw [app, app, app_congr h a, app_congr h b]
  | .all n a => rw [app, app, app_congr h a]
termination_by t => SizeOf.sizeOf t
decreasing_by
  · have := List.sizeOf_lt_of_mem hk; simp; omega
  · simp; omega
  · simp; omega
  · simp; omega
end Go.Proofs.YtjnlchhikdfifaaGreatDoor
/- subst.Rename: names for names. -/
namespace Go.Proofs.YtjnlchhikdfifaaGreatDoor
open Go.RowKit Go.Sort Go.Lib
attribute [local go_sem] Oper.semAt_some

/-- v is a slice of the strings F. -/
def StrsP (v : Value) (F : List ByteArray) (w : World) : Prop :=
  (F = [] ∧ ∃ a c, v = .slice a 0 c) ∨ ∃ g o cap, v = .slice (some ⟨g, o, none⟩) F.length cap ∧ g < w.heap.size ∧ ∀ i, i < F.length → w.cell? ⟨g, o + i, none⟩ = some (.string (F.getD i ⟨#[]⟩))
theorem StrsP.below {v : Value} {F : List ByteArray} {w w' : World} (h : StrsP v F w) (hb : Below w.heap.size w w') : StrsP v F w' := by
  rcases h with h | ⟨g, o, cap, e, hg, hc⟩
  · exact .inl h
  · exact .inr ⟨g, o, cap, e, Nat.lt_of_lt_of_le hg hb.size, fun i hi => (hb.cell (p := ⟨g, o + i, none⟩) hg).trans (hc i hi)⟩
theorem StrsP.shape {v : Value} {F : List ByteArray} {w : World} (h : StrsP v F w) : ∃ a c, v = .slice a F.length c := by
  rcases h with ⟨rfl, a, c, rfl⟩ | ⟨g, o, cap, rfl, _⟩
  · exact ⟨a, c, rfl⟩
  · exact ⟨_, _, rfl⟩
/-- At a place: where the string lies. -/
theorem StrsP.at {a : Option Addr} {n c : Nat} {F : List ByteArray} {w : World} (h : StrsP (.slice a n c) F w) (hn : 0 < F.length) : ∃ g o, a = some ⟨g, o, none⟩ ∧ g < w.heap.size ∧ ∀ i, i < F.length → w.cell? ⟨g, o + i, none⟩ = some (.string (F.getD i ⟨#[]⟩)) := by
  rcases h with ⟨rfl, _⟩ | ⟨g, o, cap, e, hg, hc⟩
  · exact absurd hn (Nat.lt_irrefl _)
  · cases e; exact ⟨g, o, rfl, hg, hc⟩
/-- The pairs that a renaming is. -/
def prs : List ByteArray → List ByteArray → List PR
  | f :: F, g :: G => ⟨f, .var g, none, 0⟩ :: prs F G
  | _, _ => []
theorem prs_len : ∀ F G, (prs F G).length = min F.length G.length
  | [], G => by simp [prs]
  | f :: F, [] => by simp [prs]
  | f :: F, g :: G => by rw [prs, List.length_cons, prs_len F G]; simp
theorem prs_get : ∀ (F G : List ByteArray) (i : Nat), i < min F.length G.length → ((prs F G).getD i noP).n = F.getD i ⟨#[]⟩ ∧ ((prs F G).getD i noP).t = .var (G.getD i ⟨#[]⟩)
  | [], G, i, h => by simp at h
  | f :: F, [], i, h => by simp at h
  | f :: F, g :: G, 0, h => ⟨rfl, rfl⟩
  | f :: F, g :: G, i + 1, h => by
    have := prs_get F G i (by simp at h ⊢; omega)
    simpa [prs, List.getD] using this
def zeros4 (n : Nat) : Array Value := madeCells zeroP (n * 4)
theorem make_row4 (n : Nat) (hn : n ≤ 1000000000) (w : World) :
    (Instr.makeSlice 71 (.int .i64 (n : Int)) (.int .i64 (n : Int))).run Tryz.prog w = .ok (.slice (some ⟨w.heap.size, 0, none⟩) n n) (w.alloc (.cells (zeros4 n) 90)) := by
  obtain ⟨i, hi, hzz⟩ := Option.map_eq_some_iff.1 Tryz.infoPair
  simp only [Prod.mk.injEq] at hzz
  obtain ⟨hz, hs, hb⟩ := hzz
  have hr := run_make (P := Tryz.prog) w 71 90 i _ Tryz.underlying71 hi hz .i64 .i64 n n (by omega) (Int.le_refl _) (by rw [hb]; omega) (by omega)
  simp only [Int.toNat_natCast, hs] at hr
  exact hr

/-- A row of k places, of which the first hold the pairs l. -/
def RowK (g k : Nat) (l : List PR) (w : World) : Prop :=
  ∃ cs, w.heap[g]? = some (.cells cs 90 (0, 0)) ∧ cs.size = k * 4 ∧ l.length ≤ k ∧ ∀ i, i < l.length →
    cs[i * 4]? = some (.string (l.getD i noP).n) ∧ cs[i * 4 + 1]? = some (.int .i64 (l.getD i noP).t.kind) ∧ cs[i * 4 + 2]? = some (.string (l.getD i noP).t.name) ∧ cs[i * 4 + 3]? = some (.slice (l.getD i noP).a (l.getD i noP).t.kids.length (l.getD i noP).c)
theorem RowK.row {g k : Nat} {l : List PR} {w : World} (h : RowK g k l w) : RowP g l w := by
  obtain ⟨cs, h1, h2, h3, h4⟩ := h; exact ⟨cs, h1, by omega, h4⟩
theorem RowK.same {g k : Nat} {l : List PR} {w w' : World} (h : RowK g k l w) (e : w'.heap[g]? = w.heap[g]?) : RowK g k l w' := by
  obtain ⟨cs, h1, h2⟩ := h; exact ⟨cs, e.trans h1, h2⟩
theorem RowK.lt {g k : Nat} {l : List PR} {w : World} (h : RowK g k l w) : g < w.heap.size := h.row.lt
theorem RowK.below {g k : Nat} {l : List PR} {w w' : World} (h : RowK g k l w) (hb : Below w.heap.size w w') : RowK g k l w' := h.same (hb.block g h.lt)
theorem RowK.cells {g k : Nat} {l : List PR} {w : World} (h : RowK g k l w) {i : Nat} (hi : i < k) : ∃ x y z u, w.cell? ⟨g, i * 4, none⟩ = some x ∧ w.cell? ⟨g, i * 4 + 1, none⟩ = some y ∧ w.cell? ⟨g, i * 4 + 2, none⟩ = some z ∧ w.cell? ⟨g, i * 4 + 3, none⟩ = some u := by
  obtain ⟨cs, h1, h2, _⟩ := h
  refine ⟨cs[i * 4]'(by omega), cs[i * 4 + 1]'(by omega), cs[i * 4 + 2]'(by omega), cs[i * 4 + 3]'(by omega), ?_, ?_, ?_, ?_⟩ <;> (rw [Lib.cell_of_heap h1]; simp)
theorem RowK.push {g k : Nat} {l : List PR} {w : World} (h : RowK g k l w) (hk : l.length < k) (x : PR) : RowK g k (l ++ [x]) (set4 w g l.length x) := by
  obtain ⟨cs, h1, h2, h3, h4⟩ := h
  refine ⟨(((cs.setIfInBounds (l.length * 4) (.string x.n)).setIfInBounds (l.length * 4 + 1) (.int .i64 x.t.kind)).setIfInBounds (l.length * 4 + 2) (.string x.t.name)).setIfInBounds (l.length * 4 + 3) (.slice x.a x.t.kids.length x.c), blk_set (blk_set (blk_set (blk_set h1 _) _) _) _, by simpa using h2, by simp; omega, fun j hj => ?_⟩
  by_cases e : j = l.length
  · subst e
    have e2 : (l ++ [x]).getD l.length noP = x := by simp [List.getD]
    rw [e2]
    refine ⟨?_, ?_, ?_, ?_⟩ <;> (simp [Array.getElem?_setIfInBounds]; omega)
  · have hj' : j < l.length := by simp at hj; omega
    have e2 : (l ++ [x]).getD j noP = l.getD j noP := by simp [List.getD, List.getElem?_append_left hj']
    rw [e2]
    obtain ⟨a1, a2, a3, a4⟩ := h4 j hj'
    refine ⟨?_, ?_, ?_, ?_⟩
    · rw [Array.getElem?_setIfInBounds_ne (by omega), Array.getElem?_setIfInBounds_ne (by omega), Array.getElem?_setIfInBounds_ne (by omega), Array.getElem?_setIfInBounds_ne (by omega)]; exact a1
    · rw [Array.getElem?_setIfInBounds_ne (by omega), Array.getElem?_setIfInBounds_ne (by omega), Array.getElem?_setIfInBounds_ne (by omega), Array.getElem?_setIfInBounds_ne (by omega)]; exact a2
    · rw [Array.getElem?_setIfInBounds_ne (by omega), Array.getElem?_setIfInBounds_ne (by omega), Array.getElem?_setIfInBounds_ne (by omega), Array.getElem?_setIfInBounds_ne (by omega)]; exact a3
    · rw [Array.getElem?_setIfInBounds_ne (by omega), Array.getElem?_setIfInBounds_ne (by omega), Array.getElem?_setIfInBounds_ne (by omega), Array.getElem?_setIfInBounds_ne (by omega)]; exact a4
theorem RowK.start (g k : Nat) (w : World) (h : w.heap[g]? = some (.cells (zeros4 k) 90 (0, 0))) : RowK g k [] w :=
  ⟨_, h, by simp [zeros4, size_madeCells], Nat.zero_le _, fun _ hi => absurd hi (Nat.not_lt_zero _)⟩

theorem gather_all (g cap : Nat) (d : List PR) (w : World) (h : RowP g d w) (ht : Typ d w) (hf : FitsAll d) (hc : d.length ≤ cap) (hl : d.length < 20) :
    Calls Tryz.prog 75 #[.slice (some ⟨g, 0, none⟩) d.length cap] w fun e w' => (∃ l, e = .returned (.agg #[.slice (some ⟨g, 0, none⟩) l.length cap]) ∧ SubAt (.slice (some ⟨g, 0, none⟩) l.length cap) l w' ∧ Gath d l) ∧ Fr g w w' := by
  by_cases h0 : d = []
  · subst h0
    refine (gather_none _ _ w).mono ?_
    rintro e w' ⟨rfl, hb⟩
    exact ⟨⟨[], rfl, sub_nil _ _ _ (fun h => by cases h), gath_nil⟩, Fr.of_below hb⟩
  · refine (gather_some g cap d w h ht hf hc hl h0).mono ?_
    rintro e w' ⟨⟨l, ⟨rfl, hlc⟩, hr, hg⟩, hfr⟩
    exact ⟨⟨l, rfl, ⟨⟨.inr ⟨g, cap, rfl, hlc, hr⟩, hg.neat⟩, fun x hx => (ht x (hg.sub x hx)).keep (hfr.keepT h)⟩, hg⟩, hfr⟩

end Go.Proofs.YtjnlchhikdfifaaGreatDoor
/- Numbers taken one by one; the types that are made of them. -/
namespace Go.Proofs.YtjnlchhikdfifaaGreatDoor
open Go.RowKit
attribute [local go_sem] Oper.semAt_some
attribute [local go_sem ↓] Go.wp_at_zero Go.wp_at_succ

theorem block_set {W : World} {b o : Nat} {cs : Array Value} {T : TypeId} {m : Nat × Nat} (h : W.heap[b]? = some (.cells cs T m)) (v : Value) : (W.setCell ⟨b, o, none⟩ v).heap[b]? = some (.cells (cs.setIfInBounds o v) T m) := by
  obtain ⟨hlt, hk⟩ := Array.getElem?_eq_some_iff.1 h
  show (W.heap.modify b _)[b]? = _
  rw [Array.getElem?_eq_getElem (by rw [Array.size_modify]; exact hlt), Array.getElem_modify_self, hk]
  rfl
theorem ret_int {x y : Int} (h : x = y) : Ending.returned (.int .i64 x) = Ending.returned (.int .i64 y) := by rw [h]

theorem number_any (z : Int) (n : Nat) (w : World) (_ : -9223372036854775808 ≤ z) (_ : z ≤ 9223372036854775807) (hn0 : 0 < n) (hn : n ≤ 1000000) :
    Calls Tryz.prog 58 #[.int .i64 z, .int .i64 (n : Int)] w fun e w' => ∃ r : Nat, r < n ∧ e = .returned (.int .i64 (r : Int)) ∧ w = w' := by
  have k1 := Int.tmod_lt_of_pos z (show (0 : Int) < (n : Int) by omega)
  have k2 := Int.lt_tmod_of_pos z (show (0 : Int) < (n : Int) by omega)
  obtain ⟨q, hq⟩ : ∃ q, z.tmod (n : Int) = q := ⟨_, rfl⟩
  rw [hq] at k1 k2
  have hn1 : ((n : Int) == 0) = false := by simp; omega
  go_enter Tryz.func58, Tryz.ntmps58
  go_wp2
  · go_ret
    exact ⟨(q + n).toNat, by omega, ret_int (by omega), rfl⟩
  · go_ret
    exact ⟨q.toNat, by omega, ret_int (by omega), rfl⟩

/-- The ints of a row, in memory below B. -/
def IntsAt (B : Nat) (a : Option Addr) (n : Nat) (w : World) : Prop :=
  n = 0 ∨ ∃ g o, a = some ⟨g, o, none⟩ ∧ g < B ∧ ∀ i, i < n → ∃ z : Int, w.cell? ⟨g, o + i, none⟩ = some (.int .i64 z) ∧ -9223372036854775808 ≤ z ∧ z ≤ 9223372036854775807
/-- A Seq at block p, which has given k numbers. -/
def SeqAt (B p : Nat) (a : Option Addr) (n c k : Nat) (w : World) : Prop :=
  (B ≤ p ∧ w.heap[p]? = some (.cells #[.slice a n c, .int .i64 (k : Int)] 27 (0, 0))) ∧ IntsAt B a n w
/-- What a maker leaves as it was: all below B, and all but its Seq. -/
def MkFr (B p : Nat) (w w' : World) : Prop := Below B w w' ∧ ∀ k o, w.heap[k]? = some o → k ≠ p → w'.heap[k]? = some o
theorem MkFr.refl (B p : Nat) (w : World) : MkFr B p w w := ⟨Below.refl _ _, fun _ _ h _ => h⟩
theorem MkFr.trans {B p : Nat} {x y z : World} (h : MkFr B p x y) (k : MkFr B p y z) : MkFr B p x z := ⟨h.1.trans k.1, fun i o hi hp => k.2 i o (h.2 i o hi hp) hp⟩
theorem MkFr.of_below {B p : Nat} {w w' : World} (h : Below w.heap.size w w') (hB : B ≤ w.heap.size) : MkFr B p w w' := ⟨h.mono hB, fun k _ hk _ => (h.block k (Array.getElem?_eq_some_iff.1 hk).1).trans hk⟩
theorem IntsAt.keep {B : Nat} {a : Option Addr} {n : Nat} {w w' : World} (h : IntsAt B a n w) (hb : Below B w w') : IntsAt B a n w' := by
  rcases h with h | ⟨g, o, e, hg, hi⟩
  · exact .inl h
  · refine .inr ⟨g, o, e, hg, fun i h => ?_⟩
    obtain ⟨z, hz, r⟩ := hi i h
    exact ⟨z, (hb.cell (p := ⟨g, o + i, none⟩) hg).trans hz, r⟩
theorem SeqAt.below {B p : Nat} {a : Option Addr} {n c k : Nat} {w w' : World} (h : SeqAt B p a n c k w) (hb : Below w.heap.size w w') : SeqAt B p a n c k w' := by
  have hp := (Array.getElem?_eq_some_iff.1 h.1.2).1
  exact ⟨⟨h.1.1, (hb.block p hp).trans h.1.2⟩, h.2.keep (hb.mono (by have := h.1.1; omega))⟩
theorem SeqAt.lt {B p : Nat} {a : Option Addr} {n c k : Nat} {w : World} (h : SeqAt B p a n c k w) : p < w.heap.size := (Array.getElem?_eq_some_iff.1 h.1.2).1
theorem KeepT.of_mk {B p : Nat} {a : Option Addr} {n c k : Nat} {w w' : World} (h : MkFr B p w w') (hs : SeqAt B p a n c k w) : KeepT w w' := by
  intro i cs fz hi
  refine h.2 i _ hi fun e => ?_
  subst e
  have := hi.symm.trans hs.1.2
  simp at this

set_option maxHeartbeats 1000000 in
theorem next_any (B p : Nat) (a : Option Addr) (n c k m : Nat) (w : World) (h : SeqAt B p a n c k w) (hm0 : 0 < m) (hm : m ≤ 1000000) (hk : k < 1152921504606846976) (_ : n < 1152921504606846976) :
    Calls Tryz.prog 30 #[.pointer (some ⟨p, 0, none⟩), .int .i64 (m : Int)] w fun e w' => (∃ r : Nat, r < m ∧ e = .returned (.int .i64 (r : Int))) ∧ SeqAt B p a n c (k + 1) w' ∧ MkFr B p w w' := by
  obtain ⟨⟨hB, hp⟩, hi⟩ := h
  have c0 : w.cell? ⟨p, 0, none⟩ = some (.slice a n c) := by rw [Lib.cell_of_heap hp]; rfl
  have c1 : w.cell? ⟨p, 1, none⟩ = some (.int .i64 (k : Int)) := by rw [Lib.cell_of_heap hp]; rfl
  have f1 : w.frozen? ⟨p, 1, none⟩ = false := Lib.frozen_of_heap hp 1
  have HI := Lib.hid hi
  have HP := Lib.hid hp
  have HN := Lib.hid (fun z W h1 h2 => number_any z m W h1 h2 hm0 hm)
  clear hi hp
  have fin : ∀ W : World, Below B w W → (∀ i o, w.heap[i]? = some o → i ≠ p → W.heap[i]? = some o) → W.heap[p]? = some (.cells #[.slice a n c, .int .i64 ((k + 1 : Nat) : Int)] 27 (0, 0)) → SeqAt B p a n c (k + 1) W ∧ MkFr B p w W :=
    fun W hb ho h => ⟨⟨⟨hB, h⟩, HI.out.keep hb⟩, hb, ho⟩
  have HF := Lib.hid fin; clear fin
  by_cases hlt : k < n
  · have hlt' : ((k : Int) < (n : Int)) := by omega
    rcases HI.out with h0 | ⟨g, o, rfl, hg, hcell⟩
    · omega
    · obtain ⟨z, hz, hz1, hz2⟩ := hcell k hlt
      clear hcell
      go_enter Tryz.func30, Tryz.ntmps30
      go_wp2
      go_quiet (fail)
      go_wp2
      go_quiet (fail)
      go_wp2_with (go_at_call 58; refine (HN.out _ _ hz1 hz2).mono ?_)
      rintro e W2 ⟨r, hr, rfl, rfl⟩
      go_wp2
      go_ret
      refine ⟨⟨r, hr, rfl⟩, HF.out _ ?_ ?_ ?_⟩
      · exact (below_drewN (Below.refl _ _) _).setCell (p := ⟨p, 1, none⟩) hB _
      · intro i o' hi hip
        exact (Below.heap_setCell _ ⟨p, 1, none⟩ _ i hip).trans hi
      · exact (block_set (W := w.drewN _) (show (w.drewN _).heap[p]? = _ from HP.out) _)
  · have hlt' : ¬ ((k : Int) < (n : Int)) := by omega
    go_enter Tryz.func30, Tryz.ntmps30
    go_wp2
    go_quiet (fail)
    go_wp2_with (go_at_call 58; refine (HN.out 0 _ (by decide) (by decide)).mono ?_)
    rintro e W2 ⟨r, hr, rfl, rfl⟩
    go_wp2
    go_ret
    refine ⟨⟨r, hr, rfl⟩, HF.out _ ?_ ?_ ?_⟩
    · exact (below_drewN (Below.refl _ _) _).setCell (p := ⟨p, 1, none⟩) hB _
    · intro i o' hi hip
      exact (Below.heap_setCell _ ⟨p, 1, none⟩ _ i hip).trans hi
    · exact (block_set (W := w.drewN _) (show (w.drewN _).heap[p]? = _ from HP.out) _)
end Go.Proofs.YtjnlchhikdfifaaGreatDoor
/- The types that are made of numbers: good ones, of a bounded text. -/
namespace Go.Proofs.YtjnlchhikdfifaaGreatDoor
open Go.RowKit
attribute [local go_sem] Oper.semAt_some
attribute [local go_sem ↓] Go.wp_at_zero Go.wp_at_succ

theorem TyAt.elsewhere {w w' : World} {r : Nat} {b c : Value} {fz : Nat × Nat} (h0 : w.heap[r]? = some (.cells #[.int .i64 0, b, c] 31 fz)) (hk : ∀ k, k ≠ r → w'.heap[k]? = w.heap[k]?) {t : T} {k n v : Value} (h : TyAt w t k n v) : TyAt w' t k n v := by
  induction h with
  | leaf t a c h => exact .leaf t a c h
  | row t g cap cs fz x y z h1 h2 h3 h4 ih =>
    by_cases he : t.kids = []
    · rw [he]; exact .leaf t _ _ he
    · have h0t : 0 < t.kids.length := List.length_pos_iff.2 he
      have hg : g ≠ r := by
        rintro rfl
        rw [h0] at h1
        cases h1
        have e1 := (h3 0 h0t).1
        have e2 := (h4 0 h0t).shape.1
        have e3 : x 0 = .int .i64 0 := by simpa using e1.symm
        rw [e2] at e3
        have := (T.kind_pos t.kids[0]).1
        injection e3 with _ e4
        omega
      exact .row t g cap cs fz x y z ((hk g hg).trans h1) h2 h3 ih
theorem TysAt.elsewhere {w w' : World} {r : Nat} {b c : Value} {fz : Nat × Nat} (h0 : w.heap[r]? = some (.cells #[.int .i64 0, b, c] 31 fz)) (hk : ∀ k, k ≠ r → w'.heap[k]? = w.heap[k]?) {v : Value} {l : List T} (h : TysAt w v l) : TysAt w' v l := by
  rcases h with h | ⟨g, cap, cs, fz, x, y, z, rfl, h1, h2, h3, h4⟩
  · exact .inl h
  · by_cases he : l = []
    · subst he; exact .inl ⟨rfl, _, _, rfl⟩
    · have h0t : 0 < l.length := List.length_pos_iff.2 he
      have hg : g ≠ r := by
        rintro rfl
        rw [h0] at h1
        cases h1
        have e1 := (h3 0 h0t).1
        have e2 := (h4 0 h0t).shape.1
        have e3 : x 0 = .int .i64 0 := by simpa using e1.symm
        rw [e2] at e3
        have := (T.kind_pos l[0]).1
        injection e3 with _ e4
        omega
      exact .inr ⟨g, cap, cs, fz, x, y, z, rfl, (hk g hg).trans h1, h2, h3, fun i hi => (h4 i hi).elsewhere h0 hk⟩

theorem set3_cells {W : World} {r : Nat} {x0 y0 z0 : Value} {T : TypeId} (h : W.heap[r]? = some (.cells #[x0, y0, z0] T (0, 0))) (x y z : Value) :
    (((W.setCell ⟨r, 0, none⟩ x).setCell ⟨r, 1, none⟩ y).setCell ⟨r, 2, none⟩ z).cell? ⟨r, 0, none⟩ = some x ∧ (((W.setCell ⟨r, 0, none⟩ x).setCell ⟨r, 1, none⟩ y).setCell ⟨r, 2, none⟩ z).cell? ⟨r, 1, none⟩ = some y ∧
    (((W.setCell ⟨r, 0, none⟩ x).setCell ⟨r, 1, none⟩ y).setCell ⟨r, 2, none⟩ z).cell? ⟨r, 2, none⟩ = some z :=
  three_cells (block_set (o := 2) (block_set (o := 1) (block_set (o := 0) h x) y) z)
/-- What a maker of a type hands back. -/
def MadeT (B p : Nat) (a : Option Addr) (n c k m D : Nat) (w : World) (e : Ending) (w' : World) : Prop :=
  (∃ t u, e = .returned (tyV t u) ∧ (T.Good t ∧ Fits t ∧ (T.text t).length + 10 ≤ D) ∧ TysAt w' u t.kids) ∧ (∃ k', k' + 1 ≤ k + m ∧ SeqAt B p a n c k' w') ∧ MkFr B p w w'
/-- The end: the type is stored in the result's own block. -/
theorem made_fin {B p : Nat} {a : Option Addr} {n c k k' m D : Nat} {w W : World} {O : Obj} {t : T} {u x y z : Value} (hs : SeqAt B p a n c k' W) (hk : k' + 1 ≤ k + m) (hfr : MkFr B p (w.alloc O) W) (hp : p < w.heap.size)
    (h0 : W.heap[w.heap.size]? = some (.cells #[.int .i64 0, .string ⟨#[]⟩, .slice none 0 0] 31 (0, 0))) (ht : TysAt W u t.kids) (hg : T.Good t ∧ Fits t ∧ (T.text t).length + 10 ≤ D) :
    MadeT B p a n c k m D w (.returned (tyV t u)) (((W.setCell ⟨w.heap.size, 0, none⟩ x).setCell ⟨w.heap.size, 1, none⟩ y).setCell ⟨w.heap.size, 2, none⟩ z) := by
  have hk3 : ∀ i, i ≠ w.heap.size → (((W.setCell ⟨w.heap.size, 0, none⟩ x).setCell ⟨w.heap.size, 1, none⟩ y).setCell ⟨w.heap.size, 2, none⟩ z).heap[i]? = W.heap[i]? := fun i hi =>
    (Below.heap_setCell _ ⟨w.heap.size, 2, none⟩ _ i hi).trans ((Below.heap_setCell _ ⟨w.heap.size, 1, none⟩ _ i hi).trans (Below.heap_setCell _ ⟨w.heap.size, 0, none⟩ _ i hi))
  have hB := hs.1.1
  have hbel : Below B W (((W.setCell ⟨w.heap.size, 0, none⟩ x).setCell ⟨w.heap.size, 1, none⟩ y).setCell ⟨w.heap.size, 2, none⟩ z) :=
    (((Below.refl B W).setCell (p := ⟨w.heap.size, 0, none⟩) (by show B ≤ w.heap.size; omega) _).setCell (p := ⟨w.heap.size, 1, none⟩) (by show B ≤ w.heap.size; omega) _).setCell (p := ⟨w.heap.size, 2, none⟩) (by show B ≤ w.heap.size; omega) _
  refine ⟨⟨t, u, rfl, hg, ht.elsewhere h0 hk3⟩, ⟨k', hk, ⟨hB, (hk3 p (by omega)).trans hs.1.2⟩, hs.2.keep hbel⟩, ?_, ?_⟩
  · exact (((Below.refl B w).alloc (by omega) O).trans hfr.1).trans hbel
  · intro i o hi hip
    have hlt := (Array.getElem?_eq_some_iff.1 hi).1
    exact (hk3 i (by omega)).trans (hfr.2 i o ((Below.heap_alloc w O i hlt).trans hi) hip)

theorem good_var {n : ByteArray} {D : Nat} (h : n.data.toList ∈ T.vnames) (hs : n.size ≤ 4) (hD : 14 ≤ D) : T.Good (.var n) ∧ Fits (.var n) ∧ (T.text (.var n)).length + 10 ≤ D := by
  refine ⟨by rw [T.Good]; exact h, .mk _ (by simp [T.kids]) (by simp [T.kids]), ?_⟩
  rw [T.text, ← Lib.size_eq]; omega
theorem good_con0 {n : ByteArray} {D : Nat} (h : n.data.toList ∈ T.cnames) (hs : n.size ≤ 4) (hD : 14 ≤ D) : T.Good (.con n []) ∧ Fits (.con n []) ∧ (T.text (.con n [])).length + 10 ≤ D := by
  refine ⟨by rw [T.Good, T.Goods]; exact ⟨h, trivial⟩, .mk _ (by simp [T.kids]) (by simp [T.kids]), ?_⟩
  rw [T.text, T.texts, List.append_nil, ← Lib.size_eq]; omega
theorem br_len (b : Bool) (s : List UInt8) : (T.br b s).length ≤ s.length + 2 := by cases b <;> simp [T.br]
theorem arg_len (t : T) : (T.arg t).length ≤ (T.text t).length + 2 := br_len _ _
theorem good_con1 {n : ByteArray} {x : T} {D E : Nat} (h : n.data.toList ∈ T.cnames) (hs : n.size ≤ 4) (hx : T.Good x ∧ Fits x ∧ (T.text x).length + 10 ≤ D) (hE : 2 * D ≤ E) (_ : 14 ≤ D) : T.Good (.con n [x]) ∧ Fits (.con n [x]) ∧ (T.text (.con n [x])).length + 10 ≤ E := by
  refine ⟨by rw [T.Good, T.Goods, T.Goods]; exact ⟨h, hx.1, trivial⟩, .mk _ (by simp [T.kids]) (fun k hk => by simp [T.kids] at hk; subst hk; exact hx.2.1), ?_⟩
  have := arg_len x; have := hx.2.2
  rw [T.text, T.texts_cons, T.texts]
  simp only [List.length_append, List.length_cons, List.length_nil, ← Lib.size_eq]; omega
theorem good_con2 {n : ByteArray} {x y : T} {D E : Nat} (h : n.data.toList ∈ T.cnames) (hs : n.size ≤ 4) (hx : T.Good x ∧ Fits x ∧ (T.text x).length + 10 ≤ D) (hy : T.Good y ∧ Fits y ∧ (T.text y).length + 10 ≤ D) (hE : 2 * D ≤ E) : T.Good (.con n [x, y]) ∧ Fits (.con n [x, y]) ∧ (T.text (.con n [x, y])).length + 10 ≤ E := by
  refine ⟨by rw [T.Good, T.Goods, T.Goods, T.Goods]; exact ⟨h, hx.1, hy.1, trivial⟩, .mk _ (by simp [T.kids]) (fun k hk => by simp [T.kids] at hk; rcases hk with rfl | rfl; exact hx.2.1; exact hy.2.1), ?_⟩
  have := arg_len x; have := arg_len y; have := hx.2.2; have := hy.2.2
  rw [T.text, T.texts_cons, T.texts_cons, T.texts]
  simp only [List.length_append, List.length_cons, List.length_nil, ← Lib.size_eq]; omega
theorem good_fn {x y : T} {D E : Nat} (hx : T.Good x ∧ Fits x ∧ (T.text x).length + 10 ≤ D) (hy : T.Good y ∧ Fits y ∧ (T.text y).length + 10 ≤ D) (hE : 2 * D ≤ E) : T.Good (.fn x y) ∧ Fits (.fn x y) ∧ (T.text (.fn x y)).length + 10 ≤ E := by
  refine ⟨by rw [T.Good]; exact ⟨hx.1, hy.1⟩, .mk _ (by simp [T.kids]) (fun k hk => by simp [T.kids] at hk; rcases hk with rfl | rfl; exact hx.2.1; exact hy.2.1), ?_⟩
  have := br_len x.arrow x.text; have := hx.2.2; have := hy.2.2
  rw [T.text]
  simp only [List.length_append, List.length_cons, List.length_nil]; omega

set_option maxHeartbeats 4000000 in
theorem make_type0 (B p : Nat) (a : Option Addr) (n c k : Nat) (w : World) (h : SeqAt B p a n c k w) (hk : k < 1152921504606846976) (hn : n < 1152921504606846976) :
    Calls Tryz.prog 24 #[.pointer (some ⟨p, 0, none⟩), .int .i64 0] w (MadeT B p a n c k 2 14 w) := by
  have hp := h.lt
  have HN := Lib.hid (fun o => next_any B p a n c k 9 (w.alloc o) (h.below ((Below.refl _ w).alloc (Nat.le_refl _) o)) (by decide) (by decide) hk hn)
  have HNe := Lib.hid (show w.heap.size ≠ p by omega)
  clear h
  go_enter Tryz.func24, Tryz.ntmps24
  go_wp2_with (go_at_call 30; refine (HN.out _).mono ?_)
  rintro e W1 ⟨⟨r, hr, rfl⟩, h1, h2⟩
  have hz := h2.2 _ _ (alloc_new w _) HNe.out
  obtain ⟨c0, c1, c2⟩ := three_cells hz
  have f0 := Lib.frozen_of_heap hz 0
  have f1 := Lib.frozen_of_heap hz 1
  have f2 := Lib.frozen_of_heap hz 2
  have HZ := Lib.hid hz; have H1 := Lib.hid h1; have H2 := Lib.hid h2
  have hzl := (Array.getElem?_eq_some_iff.1 hz).1
  clear hz h1 h2
  obtain ⟨z, hz⟩ : ∃ z : Int, (r : Int) = z := ⟨_, rfl⟩
  rw [hz]
  have h9 : z = 0 ∨ z = 1 ∨ z = 2 ∨ z = 3 ∨ z = 4 ∨ z = 5 ∨ z = 6 ∨ z = 7 ∨ z = 8 := by omega
  clear hz hr
  rcases h9 with rfl | rfl | rfl | rfl | rfl | rfl | rfl | rfl | rfl
  · go_wp2_with (go_at_call 25; refine (var_any _ _).mono ?_)
    rintro e W2 ⟨⟨u, rfl, hu⟩, hb⟩
    have HBT := Lib.hid (((Below.refl _ W1).alloc (Nat.le_refl _) _).trans (hb.mono (by simp)))
    clear hb
    obtain ⟨a2, n2, rfl⟩ := hu.shape
    have hz2 : W2.heap[w.heap.size]? = some (.cells #[.int .i64 0, .string ⟨#[]⟩, .slice none 0 0] 31 (0, 0)) := (HBT.out.block _ hzl).trans HZ.out
    obtain ⟨d0, d1, d2⟩ := three_cells hz2
    have g0 := Lib.frozen_of_heap hz2 0
    have g1 := Lib.frozen_of_heap hz2 1
    have g2 := Lib.frozen_of_heap hz2 2
    have HZ2 := Lib.hid hz2; have HU := Lib.hid hu
    clear hz2 hu c0 c1 c2 f0 f1 f2
    simp only [tyV, T.kind, T.name, List.length_nil]
    go_wp2
    exact bodyPost_ret (v := .agg #[.int .i64 1, .string ⟨#[97]⟩, .slice a2 0 n2]) (by have hc := set3_cells HZ2.out (.int .i64 1) (.string ⟨#[97]⟩) (.slice a2 0 n2); simp [results, Tryz.results24, go_sem, hc.1, hc.2.1, hc.2.2]) rfl (made_fin (t := .var ⟨#[97]⟩) (H1.out.below HBT.out) (by omega) (H2.out.trans (MkFr.of_below HBT.out (Nat.le_trans H1.out.1.1 (Nat.le_of_lt H1.out.lt)))) hp HZ2.out HU.out (good_var (by decide) (by decide) (by decide)))
  · go_wp2_with (go_at_call 25; refine (var_any _ _).mono ?_)
    rintro e W2 ⟨⟨u, rfl, hu⟩, hb⟩
    have HBT := Lib.hid (((Below.refl _ W1).alloc (Nat.le_refl _) _).trans (hb.mono (by simp)))
    clear hb
    obtain ⟨a2, n2, rfl⟩ := hu.shape
    have hz2 : W2.heap[w.heap.size]? = some (.cells #[.int .i64 0, .string ⟨#[]⟩, .slice none 0 0] 31 (0, 0)) := (HBT.out.block _ hzl).trans HZ.out
    obtain ⟨d0, d1, d2⟩ := three_cells hz2
    have g0 := Lib.frozen_of_heap hz2 0
    have g1 := Lib.frozen_of_heap hz2 1
    have g2 := Lib.frozen_of_heap hz2 2
    have HZ2 := Lib.hid hz2; have HU := Lib.hid hu
    clear hz2 hu c0 c1 c2 f0 f1 f2
    simp only [tyV, T.kind, T.name, List.length_nil]
    go_wp2
    exact bodyPost_ret (v := .agg #[.int .i64 1, .string ⟨#[98]⟩, .slice a2 0 n2]) (by have hc := set3_cells HZ2.out (.int .i64 1) (.string ⟨#[98]⟩) (.slice a2 0 n2); simp [results, Tryz.results24, go_sem, hc.1, hc.2.1, hc.2.2]) rfl (made_fin (t := .var ⟨#[98]⟩) (H1.out.below HBT.out) (by omega) (H2.out.trans (MkFr.of_below HBT.out (Nat.le_trans H1.out.1.1 (Nat.le_of_lt H1.out.lt)))) hp HZ2.out HU.out (good_var (by decide) (by decide) (by decide)))
  · go_wp2_with (go_at_call 25; refine (var_any _ _).mono ?_)
    rintro e W2 ⟨⟨u, rfl, hu⟩, hb⟩
    have HBT := Lib.hid (((Below.refl _ W1).alloc (Nat.le_refl _) _).trans (hb.mono (by simp)))
    clear hb
    obtain ⟨a2, n2, rfl⟩ := hu.shape
    have hz2 : W2.heap[w.heap.size]? = some (.cells #[.int .i64 0, .string ⟨#[]⟩, .slice none 0 0] 31 (0, 0)) := (HBT.out.block _ hzl).trans HZ.out
    obtain ⟨d0, d1, d2⟩ := three_cells hz2
    have g0 := Lib.frozen_of_heap hz2 0
    have g1 := Lib.frozen_of_heap hz2 1
    have g2 := Lib.frozen_of_heap hz2 2
    have HZ2 := Lib.hid hz2; have HU := Lib.hid hu
    clear hz2 hu c0 c1 c2 f0 f1 f2
    simp only [tyV, T.kind, T.name, List.length_nil]
    go_wp2
    exact bodyPost_ret (v := .agg #[.int .i64 1, .string ⟨#[99]⟩, .slice a2 0 n2]) (by have hc := set3_cells HZ2.out (.int .i64 1) (.string ⟨#[99]⟩) (.slice a2 0 n2); simp [results, Tryz.results24, go_sem, hc.1, hc.2.1, hc.2.2]) rfl (made_fin (t := .var ⟨#[99]⟩) (H1.out.below HBT.out) (by omega) (H2.out.trans (MkFr.of_below HBT.out (Nat.le_trans H1.out.1.1 (Nat.le_of_lt H1.out.lt)))) hp HZ2.out HU.out (good_var (by decide) (by decide) (by decide)))
  · go_wp2_with (go_at_call 53; refine (con_any _ none [] 0 0 _ (TysAt.nil _ _ _)).mono ?_)
    rintro e W2 ⟨⟨u, rfl, hu⟩, hb⟩
    have HBT := Lib.hid hb
    clear hb
    obtain ⟨a2, n2, rfl⟩ := hu.shape
    have hz2 : W2.heap[w.heap.size]? = some (.cells #[.int .i64 0, .string ⟨#[]⟩, .slice none 0 0] 31 (0, 0)) := (HBT.out.block _ hzl).trans HZ.out
    obtain ⟨d0, d1, d2⟩ := three_cells hz2
    have g0 := Lib.frozen_of_heap hz2 0
    have g1 := Lib.frozen_of_heap hz2 1
    have g2 := Lib.frozen_of_heap hz2 2
    have HZ2 := Lib.hid hz2; have HU := Lib.hid hu
    clear hz2 hu c0 c1 c2 f0 f1 f2
    simp only [tyV, T.kind, T.name, List.length_nil]
    go_wp2
    exact bodyPost_ret (v := .agg #[.int .i64 2, .string ⟨#[73, 110, 116]⟩, .slice a2 0 n2]) (by have hc := set3_cells HZ2.out (.int .i64 2) (.string ⟨#[73, 110, 116]⟩) (.slice a2 0 n2); simp [results, Tryz.results24, go_sem, hc.1, hc.2.1, hc.2.2]) rfl (made_fin (t := .con ⟨#[73, 110, 116]⟩ []) (H1.out.below HBT.out) (by omega) (H2.out.trans (MkFr.of_below HBT.out (Nat.le_trans H1.out.1.1 (Nat.le_of_lt H1.out.lt)))) hp HZ2.out HU.out (good_con0 (by decide) (by decide) (by decide)))
  · go_wp2_with (go_at_call 53; refine (con_any _ none [] 0 0 _ (TysAt.nil _ _ _)).mono ?_)
    rintro e W2 ⟨⟨u, rfl, hu⟩, hb⟩
    have HBT := Lib.hid hb
    clear hb
    obtain ⟨a2, n2, rfl⟩ := hu.shape
    have hz2 : W2.heap[w.heap.size]? = some (.cells #[.int .i64 0, .string ⟨#[]⟩, .slice none 0 0] 31 (0, 0)) := (HBT.out.block _ hzl).trans HZ.out
    obtain ⟨d0, d1, d2⟩ := three_cells hz2
    have g0 := Lib.frozen_of_heap hz2 0
    have g1 := Lib.frozen_of_heap hz2 1
    have g2 := Lib.frozen_of_heap hz2 2
    have HZ2 := Lib.hid hz2; have HU := Lib.hid hu
    clear hz2 hu c0 c1 c2 f0 f1 f2
    simp only [tyV, T.kind, T.name, List.length_nil]
    go_wp2
    exact bodyPost_ret (v := .agg #[.int .i64 2, .string ⟨#[66, 111, 111, 108]⟩, .slice a2 0 n2]) (by have hc := set3_cells HZ2.out (.int .i64 2) (.string ⟨#[66, 111, 111, 108]⟩) (.slice a2 0 n2); simp [results, Tryz.results24, go_sem, hc.1, hc.2.1, hc.2.2]) rfl (made_fin (t := .con ⟨#[66, 111, 111, 108]⟩ []) (H1.out.below HBT.out) (by omega) (H2.out.trans (MkFr.of_below HBT.out (Nat.le_trans H1.out.1.1 (Nat.le_of_lt H1.out.lt)))) hp HZ2.out HU.out (good_con0 (by decide) (by decide) (by decide)))
  · go_wp2_with (go_at_call 25; refine (var_any _ _).mono ?_)
    rintro e W2 ⟨⟨u, rfl, hu⟩, hb⟩
    have HBT := Lib.hid (((Below.refl _ W1).alloc (Nat.le_refl _) _).trans (hb.mono (by simp)))
    clear hb
    obtain ⟨a2, n2, rfl⟩ := hu.shape
    have hz2 : W2.heap[w.heap.size]? = some (.cells #[.int .i64 0, .string ⟨#[]⟩, .slice none 0 0] 31 (0, 0)) := (HBT.out.block _ hzl).trans HZ.out
    obtain ⟨d0, d1, d2⟩ := three_cells hz2
    have g0 := Lib.frozen_of_heap hz2 0
    have g1 := Lib.frozen_of_heap hz2 1
    have g2 := Lib.frozen_of_heap hz2 2
    have HZ2 := Lib.hid hz2; have HU := Lib.hid hu
    clear hz2 hu c0 c1 c2 f0 f1 f2
    simp only [tyV, T.kind, T.name, List.length_nil]
    go_wp2
    exact bodyPost_ret (v := .agg #[.int .i64 1, .string ⟨#[97]⟩, .slice a2 0 n2]) (by have hc := set3_cells HZ2.out (.int .i64 1) (.string ⟨#[97]⟩) (.slice a2 0 n2); simp [results, Tryz.results24, go_sem, hc.1, hc.2.1, hc.2.2]) rfl (made_fin (t := .var ⟨#[97]⟩) (H1.out.below HBT.out) (by omega) (H2.out.trans (MkFr.of_below HBT.out (Nat.le_trans H1.out.1.1 (Nat.le_of_lt H1.out.lt)))) hp HZ2.out HU.out (good_var (by decide) (by decide) (by decide)))
  · go_wp2_with (go_at_call 25; refine (var_any _ _).mono ?_)
    rintro e W2 ⟨⟨u, rfl, hu⟩, hb⟩
    have HBT := Lib.hid (((Below.refl _ W1).alloc (Nat.le_refl _) _).trans (hb.mono (by simp)))
    clear hb
    obtain ⟨a2, n2, rfl⟩ := hu.shape
    have hz2 : W2.heap[w.heap.size]? = some (.cells #[.int .i64 0, .string ⟨#[]⟩, .slice none 0 0] 31 (0, 0)) := (HBT.out.block _ hzl).trans HZ.out
    obtain ⟨d0, d1, d2⟩ := three_cells hz2
    have g0 := Lib.frozen_of_heap hz2 0
    have g1 := Lib.frozen_of_heap hz2 1
    have g2 := Lib.frozen_of_heap hz2 2
    have HZ2 := Lib.hid hz2; have HU := Lib.hid hu
    clear hz2 hu c0 c1 c2 f0 f1 f2
    simp only [tyV, T.kind, T.name, List.length_nil]
    go_wp2
    exact bodyPost_ret (v := .agg #[.int .i64 1, .string ⟨#[98]⟩, .slice a2 0 n2]) (by have hc := set3_cells HZ2.out (.int .i64 1) (.string ⟨#[98]⟩) (.slice a2 0 n2); simp [results, Tryz.results24, go_sem, hc.1, hc.2.1, hc.2.2]) rfl (made_fin (t := .var ⟨#[98]⟩) (H1.out.below HBT.out) (by omega) (H2.out.trans (MkFr.of_below HBT.out (Nat.le_trans H1.out.1.1 (Nat.le_of_lt H1.out.lt)))) hp HZ2.out HU.out (good_var (by decide) (by decide) (by decide)))
  · go_wp2_with (go_at_call 25; refine (var_any _ _).mono ?_)
    rintro e W2 ⟨⟨u, rfl, hu⟩, hb⟩
    have HBT := Lib.hid (((Below.refl _ W1).alloc (Nat.le_refl _) _).trans (hb.mono (by simp)))
    clear hb
    obtain ⟨a2, n2, rfl⟩ := hu.shape
    have hz2 : W2.heap[w.heap.size]? = some (.cells #[.int .i64 0, .string ⟨#[]⟩, .slice none 0 0] 31 (0, 0)) := (HBT.out.block _ hzl).trans HZ.out
    obtain ⟨d0, d1, d2⟩ := three_cells hz2
    have g0 := Lib.frozen_of_heap hz2 0
    have g1 := Lib.frozen_of_heap hz2 1
    have g2 := Lib.frozen_of_heap hz2 2
    have HZ2 := Lib.hid hz2; have HU := Lib.hid hu
    clear hz2 hu c0 c1 c2 f0 f1 f2
    simp only [tyV, T.kind, T.name, List.length_nil]
    go_wp2
    exact bodyPost_ret (v := .agg #[.int .i64 1, .string ⟨#[99]⟩, .slice a2 0 n2]) (by have hc := set3_cells HZ2.out (.int .i64 1) (.string ⟨#[99]⟩) (.slice a2 0 n2); simp [results, Tryz.results24, go_sem, hc.1, hc.2.1, hc.2.2]) rfl (made_fin (t := .var ⟨#[99]⟩) (H1.out.below HBT.out) (by omega) (H2.out.trans (MkFr.of_below HBT.out (Nat.le_trans H1.out.1.1 (Nat.le_of_lt H1.out.lt)))) hp HZ2.out HU.out (good_var (by decide) (by decide) (by decide)))
  · go_wp2_with (go_at_call 53; refine (con_any _ none [] 0 0 _ (TysAt.nil _ _ _)).mono ?_)
    rintro e W2 ⟨⟨u, rfl, hu⟩, hb⟩
    have HBT := Lib.hid hb
    clear hb
    obtain ⟨a2, n2, rfl⟩ := hu.shape
    have hz2 : W2.heap[w.heap.size]? = some (.cells #[.int .i64 0, .string ⟨#[]⟩, .slice none 0 0] 31 (0, 0)) := (HBT.out.block _ hzl).trans HZ.out
    obtain ⟨d0, d1, d2⟩ := three_cells hz2
    have g0 := Lib.frozen_of_heap hz2 0
    have g1 := Lib.frozen_of_heap hz2 1
    have g2 := Lib.frozen_of_heap hz2 2
    have HZ2 := Lib.hid hz2; have HU := Lib.hid hu
    clear hz2 hu c0 c1 c2 f0 f1 f2
    simp only [tyV, T.kind, T.name, List.length_nil]
    go_wp2
    exact bodyPost_ret (v := .agg #[.int .i64 2, .string ⟨#[73, 110, 116]⟩, .slice a2 0 n2]) (by have hc := set3_cells HZ2.out (.int .i64 2) (.string ⟨#[73, 110, 116]⟩) (.slice a2 0 n2); simp [results, Tryz.results24, go_sem, hc.1, hc.2.1, hc.2.2]) rfl (made_fin (t := .con ⟨#[73, 110, 116]⟩ []) (H1.out.below HBT.out) (by omega) (H2.out.trans (MkFr.of_below HBT.out (Nat.le_trans H1.out.1.1 (Nat.le_of_lt H1.out.lt)))) hp HZ2.out HU.out (good_con0 (by decide) (by decide) (by decide)))

end Go.Proofs.YtjnlchhikdfifaaGreatDoor
/- The types that are made of numbers: a level more. -/
namespace Go.Proofs.YtjnlchhikdfifaaGreatDoor
open Go.RowKit
attribute [local go_sem] Oper.semAt_some
attribute [local go_sem ↓] Go.wp_at_zero Go.wp_at_succ

theorem SeqAt.drew {B p : Nat} {a : Option Addr} {n c k : Nat} {w : World} (h : SeqAt B p a n c k w) : SeqAt B p a n c k w.drew := h
theorem MkFr.of_drew {B p : Nat} {w w' : World} (h : MkFr B p w.drew w') : MkFr B p w w' := ⟨⟨h.1.os, h.1.tape, h.1.output, h.1.size, h.1.block⟩, h.2⟩

set_option maxHeartbeats 4000000 in
theorem make_step (d : Int) (hd1 : 1 ≤ d) (hd2 : d ≤ 100) (M D : Nat) (hM : 2 ≤ M) (hD : 14 ≤ D) (B p : Nat) (a : Option Addr) (n c k : Nat) (w : World) (h : SeqAt B p a n c k w) (hk : k + 2 * M < 1152921504606846976) (hn : n < 1152921504606846976)
    (IH : ∀ k w, SeqAt B p a n c k w → k + M < 1152921504606846976 → Calls Tryz.prog 24 #[.pointer (some ⟨p, 0, none⟩), .int .i64 (d - 1)] w (MadeT B p a n c k M D w)) :
    Calls Tryz.prog 24 #[.pointer (some ⟨p, 0, none⟩), .int .i64 d] w (MadeT B p a n c k (2 * M) (2 * D) w) := by
  have hp := h.lt
  have HN := Lib.hid (fun o => next_any B p a n c k 9 (w.alloc o) (h.below ((Below.refl _ w).alloc (Nat.le_refl _) o)) (by decide) (by decide) (by omega) hn)
  have HNe := Lib.hid (show w.heap.size ≠ p by omega)
  have hw : IntKind.i64.wrap (d - 1) = d - 1 := by rw [IntKind.wrap_i64]; omega
  have HI := Lib.hid IH
  have HI2 := Lib.hid IH
  rw [← hw] at HI2
  clear hw
  clear h IH
  go_enter Tryz.func24, Tryz.ntmps24
  go_wp2_with (go_at_call 30; refine (HN.out _).mono ?_)
  rintro e W1 ⟨⟨r, hr, rfl⟩, h1, h2⟩
  have hz := h2.2 _ _ (alloc_new w _) HNe.out
  obtain ⟨c0, c1, c2⟩ := three_cells hz
  have f0 := Lib.frozen_of_heap hz 0
  have f1 := Lib.frozen_of_heap hz 1
  have f2 := Lib.frozen_of_heap hz 2
  have HZ := Lib.hid hz; have H1 := Lib.hid h1; have H2 := Lib.hid h2
  have hzl := (Array.getElem?_eq_some_iff.1 hz).1
  clear hz h1 h2
  obtain ⟨z, hz⟩ : ∃ z : Int, (r : Int) = z := ⟨_, rfl⟩
  rw [hz]
  have h9 : z = 0 ∨ z = 1 ∨ z = 2 ∨ z = 3 ∨ z = 4 ∨ z = 5 ∨ z = 6 ∨ z = 7 ∨ z = 8 := by omega
  clear hz hr
  rcases h9 with rfl | rfl | rfl | rfl | rfl | rfl | rfl | rfl | rfl
  · go_wp2_with (go_at_call 25; refine (var_any _ _).mono ?_)
    rintro e W2 ⟨⟨u, rfl, hu⟩, hb⟩
    have HBT := Lib.hid (((Below.refl _ W1).alloc (Nat.le_refl _) _).trans (hb.mono (by simp)))
    clear hb
    obtain ⟨a2, n2, rfl⟩ := hu.shape
    have hz2 : W2.heap[w.heap.size]? = some (.cells #[.int .i64 0, .string ⟨#[]⟩, .slice none 0 0] 31 (0, 0)) := (HBT.out.block _ hzl).trans HZ.out
    obtain ⟨d0, d1, d2⟩ := three_cells hz2
    have g0 := Lib.frozen_of_heap hz2 0
    have g1 := Lib.frozen_of_heap hz2 1
    have g2 := Lib.frozen_of_heap hz2 2
    have HZ2 := Lib.hid hz2; have HU := Lib.hid hu
    clear hz2 hu c0 c1 c2 f0 f1 f2
    simp only [tyV, T.kind, T.name, List.length_nil]
    go_wp2
    exact bodyPost_ret (v := .agg #[.int .i64 1, .string ⟨#[97]⟩, .slice a2 0 n2]) (by have hc := set3_cells HZ2.out (.int .i64 1) (.string ⟨#[97]⟩) (.slice a2 0 n2); simp [results, Tryz.results24, go_sem, hc.1, hc.2.1, hc.2.2]) rfl (made_fin (t := .var ⟨#[97]⟩) (H1.out.below HBT.out) (by omega) (H2.out.trans (MkFr.of_below HBT.out (Nat.le_trans H1.out.1.1 (Nat.le_of_lt H1.out.lt)))) hp HZ2.out HU.out (good_var (by decide) (by decide) (by omega)))
  · go_wp2_with (go_at_call 25; refine (var_any _ _).mono ?_)
    rintro e W2 ⟨⟨u, rfl, hu⟩, hb⟩
    have HBT := Lib.hid (((Below.refl _ W1).alloc (Nat.le_refl _) _).trans (hb.mono (by simp)))
    clear hb
    obtain ⟨a2, n2, rfl⟩ := hu.shape
    have hz2 : W2.heap[w.heap.size]? = some (.cells #[.int .i64 0, .string ⟨#[]⟩, .slice none 0 0] 31 (0, 0)) := (HBT.out.block _ hzl).trans HZ.out
    obtain ⟨d0, d1, d2⟩ := three_cells hz2
    have g0 := Lib.frozen_of_heap hz2 0
    have g1 := Lib.frozen_of_heap hz2 1
    have g2 := Lib.frozen_of_heap hz2 2
    have HZ2 := Lib.hid hz2; have HU := Lib.hid hu
    clear hz2 hu c0 c1 c2 f0 f1 f2
    simp only [tyV, T.kind, T.name, List.length_nil]
    go_wp2
    exact bodyPost_ret (v := .agg #[.int .i64 1, .string ⟨#[98]⟩, .slice a2 0 n2]) (by have hc := set3_cells HZ2.out (.int .i64 1) (.string ⟨#[98]⟩) (.slice a2 0 n2); simp [results, Tryz.results24, go_sem, hc.1, hc.2.1, hc.2.2]) rfl (made_fin (t := .var ⟨#[98]⟩) (H1.out.below HBT.out) (by omega) (H2.out.trans (MkFr.of_below HBT.out (Nat.le_trans H1.out.1.1 (Nat.le_of_lt H1.out.lt)))) hp HZ2.out HU.out (good_var (by decide) (by decide) (by omega)))
  · go_wp2_with (go_at_call 25; refine (var_any _ _).mono ?_)
    rintro e W2 ⟨⟨u, rfl, hu⟩, hb⟩
    have HBT := Lib.hid (((Below.refl _ W1).alloc (Nat.le_refl _) _).trans (hb.mono (by simp)))
    clear hb
    obtain ⟨a2, n2, rfl⟩ := hu.shape
    have hz2 : W2.heap[w.heap.size]? = some (.cells #[.int .i64 0, .string ⟨#[]⟩, .slice none 0 0] 31 (0, 0)) := (HBT.out.block _ hzl).trans HZ.out
    obtain ⟨d0, d1, d2⟩ := three_cells hz2
    have g0 := Lib.frozen_of_heap hz2 0
    have g1 := Lib.frozen_of_heap hz2 1
    have g2 := Lib.frozen_of_heap hz2 2
    have HZ2 := Lib.hid hz2; have HU := Lib.hid hu
    clear hz2 hu c0 c1 c2 f0 f1 f2
    simp only [tyV, T.kind, T.name, List.length_nil]
    go_wp2
    exact bodyPost_ret (v := .agg #[.int .i64 1, .string ⟨#[99]⟩, .slice a2 0 n2]) (by have hc := set3_cells HZ2.out (.int .i64 1) (.string ⟨#[99]⟩) (.slice a2 0 n2); simp [results, Tryz.results24, go_sem, hc.1, hc.2.1, hc.2.2]) rfl (made_fin (t := .var ⟨#[99]⟩) (H1.out.below HBT.out) (by omega) (H2.out.trans (MkFr.of_below HBT.out (Nat.le_trans H1.out.1.1 (Nat.le_of_lt H1.out.lt)))) hp HZ2.out HU.out (good_var (by decide) (by decide) (by omega)))
  · go_wp2_with (go_at_call 53; refine (con_any _ none [] 0 0 _ (TysAt.nil _ _ _)).mono ?_)
    rintro e W2 ⟨⟨u, rfl, hu⟩, hb⟩
    have HBT := Lib.hid hb
    clear hb
    obtain ⟨a2, n2, rfl⟩ := hu.shape
    have hz2 : W2.heap[w.heap.size]? = some (.cells #[.int .i64 0, .string ⟨#[]⟩, .slice none 0 0] 31 (0, 0)) := (HBT.out.block _ hzl).trans HZ.out
    obtain ⟨d0, d1, d2⟩ := three_cells hz2
    have g0 := Lib.frozen_of_heap hz2 0
    have g1 := Lib.frozen_of_heap hz2 1
    have g2 := Lib.frozen_of_heap hz2 2
    have HZ2 := Lib.hid hz2; have HU := Lib.hid hu
    clear hz2 hu c0 c1 c2 f0 f1 f2
    simp only [tyV, T.kind, T.name, List.length_nil]
    go_wp2
    exact bodyPost_ret (v := .agg #[.int .i64 2, .string ⟨#[73, 110, 116]⟩, .slice a2 0 n2]) (by have hc := set3_cells HZ2.out (.int .i64 2) (.string ⟨#[73, 110, 116]⟩) (.slice a2 0 n2); simp [results, Tryz.results24, go_sem, hc.1, hc.2.1, hc.2.2]) rfl (made_fin (t := .con ⟨#[73, 110, 116]⟩ []) (H1.out.below HBT.out) (by omega) (H2.out.trans (MkFr.of_below HBT.out (Nat.le_trans H1.out.1.1 (Nat.le_of_lt H1.out.lt)))) hp HZ2.out HU.out (good_con0 (by decide) (by decide) (by omega)))
  · go_wp2_with (go_at_call 53; refine (con_any _ none [] 0 0 _ (TysAt.nil _ _ _)).mono ?_)
    rintro e W2 ⟨⟨u, rfl, hu⟩, hb⟩
    have HBT := Lib.hid hb
    clear hb
    obtain ⟨a2, n2, rfl⟩ := hu.shape
    have hz2 : W2.heap[w.heap.size]? = some (.cells #[.int .i64 0, .string ⟨#[]⟩, .slice none 0 0] 31 (0, 0)) := (HBT.out.block _ hzl).trans HZ.out
    obtain ⟨d0, d1, d2⟩ := three_cells hz2
    have g0 := Lib.frozen_of_heap hz2 0
    have g1 := Lib.frozen_of_heap hz2 1
    have g2 := Lib.frozen_of_heap hz2 2
    have HZ2 := Lib.hid hz2; have HU := Lib.hid hu
    clear hz2 hu c0 c1 c2 f0 f1 f2
    simp only [tyV, T.kind, T.name, List.length_nil]
    go_wp2
    exact bodyPost_ret (v := .agg #[.int .i64 2, .string ⟨#[66, 111, 111, 108]⟩, .slice a2 0 n2]) (by have hc := set3_cells HZ2.out (.int .i64 2) (.string ⟨#[66, 111, 111, 108]⟩) (.slice a2 0 n2); simp [results, Tryz.results24, go_sem, hc.1, hc.2.1, hc.2.2]) rfl (made_fin (t := .con ⟨#[66, 111, 111, 108]⟩ []) (H1.out.below HBT.out) (by omega) (H2.out.trans (MkFr.of_below HBT.out (Nat.le_trans H1.out.1.1 (Nat.le_of_lt H1.out.lt)))) hp HZ2.out HU.out (good_con0 (by decide) (by decide) (by omega)))
  · go_wp2_with (go_at_call 24; refine (HI.out _ _ H1.out (by omega)).mono ?_)
    rintro e W2 ⟨⟨t, u, rfl, hg, hu⟩, ⟨k2, hk2, hs2⟩, hf2⟩
    obtain ⟨a2, n2, rfl⟩ := hu.shape
    have hz2 := hf2.2 _ _ HZ.out HNe.out
    have hzl2 := (Array.getElem?_eq_some_iff.1 hz2).1
    have HZ2 := Lib.hid hz2; have HU := Lib.hid hu; have HS2 := Lib.hid hs2; have HF2 := Lib.hid hf2; have HG := Lib.hid hg
    clear hz2 hu hs2 hf2 hg c0 c1 c2 f0 f1 f2
    simp only [tyV]
    go_wp2_with (go_at_call 53; refine (con_any _ _ [t] 1 1 _ (TysAt.one rfl (TyAt.mk t HU.out))).mono ?_)
    rintro e W3 ⟨⟨u3, rfl, hu3⟩, hb⟩
    obtain ⟨a3, n3, rfl⟩ := hu3.shape
    have HBT := Lib.hid (((Below.refl _ W2).alloc (Nat.le_refl _) _).trans (hb.mono (by simp)))
    have hz3 : W3.heap[w.heap.size]? = some (.cells #[.int .i64 0, .string ⟨#[]⟩, .slice none 0 0] 31 (0, 0)) := (HBT.out.block _ hzl2).trans HZ2.out
    obtain ⟨d0, d1, d2⟩ := three_cells hz3
    have g0 := Lib.frozen_of_heap hz3 0
    have g1 := Lib.frozen_of_heap hz3 1
    have g2 := Lib.frozen_of_heap hz3 2
    have HZ3 := Lib.hid hz3; have HU3 := Lib.hid hu3
    clear hz3 hu3 hb
    simp only [tyV, show (T.con ⟨#[76, 105, 115, 116]⟩ [t]).kind = 2 from rfl, show (T.con ⟨#[76, 105, 115, 116]⟩ [t]).name = ⟨#[76, 105, 115, 116]⟩ from rfl, List.length_cons, List.length_nil]
    go_wp2
    exact bodyPost_ret (v := .agg #[.int .i64 2, .string ⟨#[76, 105, 115, 116]⟩, .slice a3 1 n3]) (by have hc := set3_cells HZ3.out (.int .i64 2) (.string ⟨#[76, 105, 115, 116]⟩) (.slice a3 1 n3); simp [results, Tryz.results24, go_sem, hc.1, hc.2.1, hc.2.2]) rfl (made_fin (t := .con ⟨#[76, 105, 115, 116]⟩ [t]) (HS2.out.below HBT.out) (by omega) ((H2.out.trans HF2.out).trans (MkFr.of_below HBT.out (Nat.le_trans HS2.out.1.1 (Nat.le_of_lt HS2.out.lt)))) hp HZ3.out HU3.out (good_con1 (by decide) (by decide) HG.out (Nat.le_refl _) hD))
  · go_wp2_with (go_at_call 24; refine (HI.out _ _ H1.out (by omega)).mono ?_)
    rintro e W2 ⟨⟨t, u, rfl, hg, hu⟩, ⟨k2, hk2, hs2⟩, hf2⟩
    obtain ⟨a2, n2, rfl⟩ := hu.shape
    have hz2 := hf2.2 _ _ HZ.out HNe.out
    have hzl2 := (Array.getElem?_eq_some_iff.1 hz2).1
    have HZ2 := Lib.hid hz2; have HU := Lib.hid hu; have HS2 := Lib.hid hs2; have HF2 := Lib.hid hf2; have HG := Lib.hid hg
    clear hz2 hu hs2 hf2 hg c0 c1 c2 f0 f1 f2
    simp only [tyV]
    go_wp2_with fail
    have hbx := alloc_new W2 (.cells #[.int .i64 t.kind, .string t.name, .slice a2 t.kids.length n2] 31)
    have HBX := Lib.hid hbx
    have hne2 : W2.heap.size ≠ p := by have := HS2.out.lt; omega
    have HNe2 := Lib.hid hne2
    clear hbx hne2
    go_region_with (first
      | (go_at_call 24; refine (HI2.out k2 _ ?hs ?hk).mono ?_; (case hs => exact SeqAt.drew (HS2.out.below ((Below.refl _ W2).alloc (Nat.le_refl _) _))); (case hk => omega); rintro e W3 ⟨⟨t3, u3, rfl, hg3, hu3⟩, ⟨k3, hk3, hs3⟩, hf3'⟩; have hf3 := MkFr.of_drew hf3'; clear hf3'; obtain ⟨a3, n3, rfl⟩ := hu3.shape; have hbx3 := hf3.2 _ _ HBX.out HNe2.out; obtain ⟨x0, x1, x2⟩ := three_cells hbx3; have hz3 := hf3.2 _ _ ((Below.heap_alloc W2 _ _ hzl2).trans HZ2.out) HNe.out; have hzl3 := (Array.getElem?_eq_some_iff.1 hz3).1; have HZ3 := Lib.hid hz3; have HS3 := Lib.hid hs3; have HF3 := Lib.hid hf3; have HU3 := Lib.hid hu3; have HG3 := Lib.hid hg3; have HUt := Lib.hid (HU.out.keep ((keepT_alloc W2 _).trans (KeepT.of_mk hf3 (HS2.out.below ((Below.refl _ W2).alloc (Nat.le_refl _) _))))); clear hz3 hs3 hf3 hu3 hg3 hbx3; simp only [tyV])
      | (go_at_call 53; refine (con_any _ _ [t, t3] 2 2 _ (TysAt.two rfl (TyAt.mk t HUt.out) (TyAt.mk t3 HU3.out))).mono ?_; rintro e W4 ⟨⟨u4, rfl, hu4⟩, hb4⟩; obtain ⟨a4, n4, rfl⟩ := hu4.shape; have HBT := Lib.hid (((Below.refl _ W3).alloc (Nat.le_refl _) _).trans (hb4.mono (by simp))); have hz4 : W4.heap[w.heap.size]? = some (.cells #[.int .i64 0, .string ⟨#[]⟩, .slice none 0 0] 31 (0, 0)) := (HBT.out.block _ hzl3).trans HZ3.out; obtain ⟨d0, d1, d2⟩ := three_cells hz4; have g0 := Lib.frozen_of_heap hz4 0; have g1 := Lib.frozen_of_heap hz4 1; have g2 := Lib.frozen_of_heap hz4 2; have HZ4 := Lib.hid hz4; have HU4 := Lib.hid hu4; clear hz4 hu4 hb4; simp only [tyV, show (T.con ⟨#[80, 97, 105, 114]⟩ [t, t3]).kind = 2 from rfl, show (T.con ⟨#[80, 97, 105, 114]⟩ [t, t3]).name = ⟨#[80, 97, 105, 114]⟩ from rfl, List.length_cons, List.length_nil]))
    all_goals go_wp2
    all_goals exact bodyPost_ret (v := .agg #[.int .i64 2, .string ⟨#[80, 97, 105, 114]⟩, .slice a4 2 n4]) (by have hc := set3_cells HZ4.out (.int .i64 2) (.string ⟨#[80, 97, 105, 114]⟩) (.slice a4 2 n4); simp [results, Tryz.results24, go_sem, hc.1, hc.2.1, hc.2.2]) rfl (made_fin (t := T.con ⟨#[80, 97, 105, 114]⟩ [t, t3]) (HS3.out.below HBT.out) (by omega) (((H2.out.trans HF2.out).trans ((MkFr.of_below ((Below.refl _ W2).alloc (Nat.le_refl _) _) (Nat.le_trans HS2.out.1.1 (Nat.le_of_lt HS2.out.lt))).trans HF3.out)).trans (MkFr.of_below HBT.out (Nat.le_trans HS3.out.1.1 (Nat.le_of_lt HS3.out.lt)))) hp HZ4.out HU4.out (good_con2 (by decide) (by decide) HG.out HG3.out (Nat.le_refl _)))
  · go_wp2_with (go_at_call 24; refine (HI.out _ _ H1.out (by omega)).mono ?_)
    rintro e W2 ⟨⟨t, u, rfl, hg, hu⟩, ⟨k2, hk2, hs2⟩, hf2⟩
    obtain ⟨a2, n2, rfl⟩ := hu.shape
    have hz2 := hf2.2 _ _ HZ.out HNe.out
    have hzl2 := (Array.getElem?_eq_some_iff.1 hz2).1
    have HZ2 := Lib.hid hz2; have HU := Lib.hid hu; have HS2 := Lib.hid hs2; have HF2 := Lib.hid hf2; have HG := Lib.hid hg
    clear hz2 hu hs2 hf2 hg c0 c1 c2 f0 f1 f2
    simp only [tyV]
    go_wp2_with fail
    have hbx := alloc_new W2 (.cells #[.int .i64 t.kind, .string t.name, .slice a2 t.kids.length n2] 31)
    have HBX := Lib.hid hbx
    have hne2 : W2.heap.size ≠ p := by have := HS2.out.lt; omega
    have HNe2 := Lib.hid hne2
    clear hbx hne2
    go_region_with (first
      | (go_at_call 24; refine (HI2.out k2 _ ?hs ?hk).mono ?_; (case hs => exact SeqAt.drew (HS2.out.below ((Below.refl _ W2).alloc (Nat.le_refl _) _))); (case hk => omega); rintro e W3 ⟨⟨t3, u3, rfl, hg3, hu3⟩, ⟨k3, hk3, hs3⟩, hf3'⟩; have hf3 := MkFr.of_drew hf3'; clear hf3'; obtain ⟨a3, n3, rfl⟩ := hu3.shape; have hbx3 := hf3.2 _ _ HBX.out HNe2.out; obtain ⟨x0, x1, x2⟩ := three_cells hbx3; have hz3 := hf3.2 _ _ ((Below.heap_alloc W2 _ _ hzl2).trans HZ2.out) HNe.out; have hzl3 := (Array.getElem?_eq_some_iff.1 hz3).1; have HZ3 := Lib.hid hz3; have HS3 := Lib.hid hs3; have HF3 := Lib.hid hf3; have HU3 := Lib.hid hu3; have HG3 := Lib.hid hg3; have HUt := Lib.hid (HU.out.keep ((keepT_alloc W2 _).trans (KeepT.of_mk hf3 (HS2.out.below ((Below.refl _ W2).alloc (Nat.le_refl _) _))))); clear hz3 hs3 hf3 hu3 hg3 hbx3; simp only [tyV])
      | (go_at_call 54; refine (fun2_any t t3 _ _ _ _ _ HUt.out HU3.out).mono ?_; rintro e W4 ⟨⟨u4, rfl, hu4⟩, hb4⟩; obtain ⟨a4, n4, rfl⟩ := hu4.shape; have HBT := Lib.hid hb4; have hz4 : W4.heap[w.heap.size]? = some (.cells #[.int .i64 0, .string ⟨#[]⟩, .slice none 0 0] 31 (0, 0)) := (HBT.out.block _ hzl3).trans HZ3.out; obtain ⟨d0, d1, d2⟩ := three_cells hz4; have g0 := Lib.frozen_of_heap hz4 0; have g1 := Lib.frozen_of_heap hz4 1; have g2 := Lib.frozen_of_heap hz4 2; have HZ4 := Lib.hid hz4; have HU4 := Lib.hid hu4; clear hz4 hu4 hb4; simp only [tyV, show (T.fn t t3).kind = 3 from rfl, show (T.fn t t3).name = ⟨#[]⟩ from rfl, List.length_cons, List.length_nil]))
    all_goals go_wp2
    all_goals exact bodyPost_ret (v := .agg #[.int .i64 3, .string ⟨#[]⟩, .slice a4 2 n4]) (by have hc := set3_cells HZ4.out (.int .i64 3) (.string ⟨#[]⟩) (.slice a4 2 n4); simp [results, Tryz.results24, go_sem, hc.1, hc.2.1, hc.2.2]) rfl (made_fin (t := T.fn t t3) (HS3.out.below HBT.out) (by omega) (((H2.out.trans HF2.out).trans ((MkFr.of_below ((Below.refl _ W2).alloc (Nat.le_refl _) _) (Nat.le_trans HS2.out.1.1 (Nat.le_of_lt HS2.out.lt))).trans HF3.out)).trans (MkFr.of_below HBT.out (Nat.le_trans HS3.out.1.1 (Nat.le_of_lt HS3.out.lt)))) hp HZ4.out HU4.out (good_fn HG.out HG3.out (Nat.le_refl _)))
  · go_wp2_with (go_at_call 24; refine (HI.out _ _ H1.out (by omega)).mono ?_)
    rintro e W2 ⟨⟨t, u, rfl, hg, hu⟩, ⟨k2, hk2, hs2⟩, hf2⟩
    obtain ⟨a2, n2, rfl⟩ := hu.shape
    have hz2 := hf2.2 _ _ HZ.out HNe.out
    have hzl2 := (Array.getElem?_eq_some_iff.1 hz2).1
    have HZ2 := Lib.hid hz2; have HU := Lib.hid hu; have HS2 := Lib.hid hs2; have HF2 := Lib.hid hf2; have HG := Lib.hid hg
    clear hz2 hu hs2 hf2 hg c0 c1 c2 f0 f1 f2
    simp only [tyV]
    go_wp2_with fail
    have hbx := alloc_new W2 (.cells #[.int .i64 t.kind, .string t.name, .slice a2 t.kids.length n2] 31)
    have HBX := Lib.hid hbx
    have hne2 : W2.heap.size ≠ p := by have := HS2.out.lt; omega
    have HNe2 := Lib.hid hne2
    clear hbx hne2
    go_region_with (first
      | (go_at_call 24; refine (HI2.out k2 _ ?hs ?hk).mono ?_; (case hs => exact SeqAt.drew (HS2.out.below ((Below.refl _ W2).alloc (Nat.le_refl _) _))); (case hk => omega); rintro e W3 ⟨⟨t3, u3, rfl, hg3, hu3⟩, ⟨k3, hk3, hs3⟩, hf3'⟩; have hf3 := MkFr.of_drew hf3'; clear hf3'; obtain ⟨a3, n3, rfl⟩ := hu3.shape; have hbx3 := hf3.2 _ _ HBX.out HNe2.out; obtain ⟨x0, x1, x2⟩ := three_cells hbx3; have hz3 := hf3.2 _ _ ((Below.heap_alloc W2 _ _ hzl2).trans HZ2.out) HNe.out; have hzl3 := (Array.getElem?_eq_some_iff.1 hz3).1; have HZ3 := Lib.hid hz3; have HS3 := Lib.hid hs3; have HF3 := Lib.hid hf3; have HU3 := Lib.hid hu3; have HG3 := Lib.hid hg3; have HUt := Lib.hid (HU.out.keep ((keepT_alloc W2 _).trans (KeepT.of_mk hf3 (HS2.out.below ((Below.refl _ W2).alloc (Nat.le_refl _) _))))); clear hz3 hs3 hf3 hu3 hg3 hbx3; simp only [tyV])
      | (go_at_call 54; refine (fun2_any t t3 _ _ _ _ _ HUt.out HU3.out).mono ?_; rintro e W4 ⟨⟨u4, rfl, hu4⟩, hb4⟩; obtain ⟨a4, n4, rfl⟩ := hu4.shape; have HBT := Lib.hid hb4; have hz4 : W4.heap[w.heap.size]? = some (.cells #[.int .i64 0, .string ⟨#[]⟩, .slice none 0 0] 31 (0, 0)) := (HBT.out.block _ hzl3).trans HZ3.out; obtain ⟨d0, d1, d2⟩ := three_cells hz4; have g0 := Lib.frozen_of_heap hz4 0; have g1 := Lib.frozen_of_heap hz4 1; have g2 := Lib.frozen_of_heap hz4 2; have HZ4 := Lib.hid hz4; have HU4 := Lib.hid hu4; clear hz4 hu4 hb4; simp only [tyV, show (T.fn t t3).kind = 3 from rfl, show (T.fn t t3).name = ⟨#[]⟩ from rfl, List.length_cons, List.length_nil]))
    all_goals go_wp2
    all_goals exact bodyPost_ret (v := .agg #[.int .i64 3, .string ⟨#[]⟩, .slice a4 2 n4]) (by have hc := set3_cells HZ4.out (.int .i64 3) (.string ⟨#[]⟩) (.slice a4 2 n4); simp [results, Tryz.results24, go_sem, hc.1, hc.2.1, hc.2.2]) rfl (made_fin (t := T.fn t t3) (HS3.out.below HBT.out) (by omega) (((H2.out.trans HF2.out).trans ((MkFr.of_below ((Below.refl _ W2).alloc (Nat.le_refl _) _) (Nat.le_trans HS2.out.1.1 (Nat.le_of_lt HS2.out.lt))).trans HF3.out)).trans (MkFr.of_below HBT.out (Nat.le_trans HS3.out.1.1 (Nat.le_of_lt HS3.out.lt)))) hp HZ4.out HU4.out (good_fn HG.out HG3.out (Nat.le_refl _)))
end Go.Proofs.YtjnlchhikdfifaaGreatDoor
/- Types of depth three, of depth four, made of numbers. -/
namespace Go.Proofs.YtjnlchhikdfifaaGreatDoor
open Go.RowKit

theorem make_type1 (B p : Nat) (a : Option Addr) (n c k : Nat) (w : World) (h : SeqAt B p a n c k w) (hk : k + 4 < 1152921504606846976) (hn : n < 1152921504606846976) :
    Calls Tryz.prog 24 #[.pointer (some ⟨p, 0, none⟩), .int .i64 1] w (MadeT B p a n c k 4 28 w) :=
  make_step 1 (by decide) (by decide) 2 14 (by decide) (by decide) B p a n c k w h hk hn (fun k w h hk => make_type0 B p a n c k w h (by omega) hn)
theorem make_type2 (B p : Nat) (a : Option Addr) (n c k : Nat) (w : World) (h : SeqAt B p a n c k w) (hk : k + 8 < 1152921504606846976) (hn : n < 1152921504606846976) :
    Calls Tryz.prog 24 #[.pointer (some ⟨p, 0, none⟩), .int .i64 2] w (MadeT B p a n c k 8 56 w) :=
  make_step 2 (by decide) (by decide) 4 28 (by decide) (by decide) B p a n c k w h hk hn (fun k w h hk => make_type1 B p a n c k w h hk hn)
theorem make_type3 (B p : Nat) (a : Option Addr) (n c k : Nat) (w : World) (h : SeqAt B p a n c k w) (hk : k + 16 < 1152921504606846976) (hn : n < 1152921504606846976) :
    Calls Tryz.prog 24 #[.pointer (some ⟨p, 0, none⟩), .int .i64 3] w (MadeT B p a n c k 16 112 w) :=
  make_step 3 (by decide) (by decide) 8 56 (by decide) (by decide) B p a n c k w h hk hn (fun k w h hk => make_type2 B p a n c k w h hk hn)
theorem make_type4 (B p : Nat) (a : Option Addr) (n c k : Nat) (w : World) (h : SeqAt B p a n c k w) (hk : k + 32 < 1152921504606846976) (hn : n < 1152921504606846976) :
    Calls Tryz.prog 24 #[.pointer (some ⟨p, 0, none⟩), .int .i64 4] w (MadeT B p a n c k 32 224 w) :=
  make_step 4 (by decide) (by decide) 16 112 (by decide) (by decide) B p a n c k w h hk hn (fun k w h hk => make_type3 B p a n c k w h hk hn)
end Go.Proofs.YtjnlchhikdfifaaGreatDoor
/- The document's Size; how long a type's text is. -/
namespace Go.Proofs.YtjnlchhikdfifaaGreatDoor
open Go.RowKit
attribute [local go_sem] Oper.semAt_some

theorem T.by_kids {P : T → Prop} (H : ∀ t : T, (∀ k ∈ t.kids, P k) → P t) (t : T) : P t := H t fun k _ => T.by_kids H k
termination_by SizeOf.sizeOf t
decreasing_by exact T.kid_size ‹_›
theorem kind_var {t : T} (h : t.kind = 1) : t.kids = [] := by cases t <;> simp_all [T.kind, T.kids]
theorem take_sizes (l : List T) (i : Nat) (h : i < l.length) : tsizes (l.take (i + 1)) = tsizes (l.take i) + tsize l[i] := (tsizes_take l i h).1
def SizeOK (f : Nat) (t : T) : Prop := ∀ (a : Option Addr) (c : Nat) (w : World), TysAt w (.slice a t.kids.length c) t.kids → tsize t ≤ 1000000000 →
    Calls Tryz.prog f #[tyV t (.slice a t.kids.length c)] w fun e w' => e = .returned (.int .i64 (tsize t : Nat)) ∧ Below w.heap.size w w'

theorem vname_pos {n : ByteArray} (h : n.data.toList ∈ T.vnames) : 1 ≤ n.data.toList.length ∧ n.size ≤ 4 := by
  rw [Lib.size_eq]
  simp [T.vnames] at h
  rcases h with h | h | h <;> rw [h] <;> decide
theorem cname_pos {n : ByteArray} (h : n.data.toList ∈ T.cnames) : 1 ≤ n.data.toList.length ∧ n.size ≤ 4 := by
  rw [Lib.size_eq]
  simp [T.cnames] at h
  rcases h with h | h | h | h <;> rw [h] <;> decide
theorem br_ge (b : Bool) (s : List UInt8) : s.length ≤ (T.br b s).length := by
  unfold T.br; split <;> simp <;> omega
mutual
theorem size_text (t : T) (h : T.Good t) : tsize t ≤ (T.text t).length := by
  cases t with
  | var n => rw [T.Good] at h; rw [tsize, T.text]; exact (vname_pos h).1
  | con n l =>
    rw [T.Good] at h
    rw [tsize, T.text, List.length_append]
    have := (cname_pos h.1).1
    have := sizes_text l h.2
    omega
  | fn a b =>
    rw [T.Good] at h
    rw [tsize, T.text]
    have := size_text a h.1; have := size_text b h.2; have := br_ge a.arrow a.text
    simp only [List.length_append, List.length_cons, List.length_nil]
    omega
  | all n a => rw [T.Good] at h; exact h.elim
theorem sizes_text (l : List T) (h : T.Goods l) : tsizes l ≤ (T.texts l).length := by
  cases l with
  | nil => simp [tsizes]
  | cons a l =>
    rw [T.Goods] at h
    rw [tsizes, T.texts_cons]
    have := size_text a h.1; have := sizes_text l h.2; have := br_ge a.wide a.text
    simp only [List.length_append, List.length_cons, List.length_nil, T.arg]
    omega
end
end Go.Proofs.YtjnlchhikdfifaaGreatDoor
/- The chapter's example holds; rows that are written out. -/
namespace Go.Proofs.YtjnlchhikdfifaaGreatDoor
open Go.RowKit Go.Sort Go.Lib
attribute [local go_sem] Oper.semAt_some

theorem rowP_one {w : World} {b : Nat} (x : PR) (h : w.heap[b]? = some (.cells #[.string x.n, .int .i64 x.t.kind, .string x.t.name, .slice x.a x.t.kids.length x.c] 90 (0, 0))) : RowP b [x] w := by
  refine ⟨_, h, by simp, fun i hi => ?_⟩
  obtain rfl : i = 0 := by simpa using hi
  exact ⟨rfl, rfl, rfl, rfl⟩
theorem rowP_two {w : World} {b : Nat} (x y : PR) (h : w.heap[b]? = some (.cells #[.string x.n, .int .i64 x.t.kind, .string x.t.name, .slice x.a x.t.kids.length x.c, .string y.n, .int .i64 y.t.kind, .string y.t.name, .slice y.a y.t.kids.length y.c] 90 (0, 0))) : RowP b [x, y] w := by
  refine ⟨_, h, by simp, fun i hi => ?_⟩
  match i, hi with
  | 0, _ => exact ⟨rfl, rfl, rfl, rfl⟩
  | 1, _ => exact ⟨rfl, rfl, rfl, rfl⟩
  | n + 2, hi => simp at hi; omega
theorem SubAt.shape {v : Value} {d : List PR} {w : World} (h : SubAt v d w) : ∃ a c, v = .slice a d.length c := by
  rcases h.1.1 with ⟨rfl, a, c, rfl, _⟩ | ⟨g, cap, rfl, _⟩
  · exact ⟨a, c, rfl⟩
  · exact ⟨_, _, rfl⟩
theorem made_ty {d l : List PR} (h : Made d l) : ∀ t, app l t = app d t := app_congr h.same
theorem fits_small {t : T} (h : tsize t ≤ 1000000000) : Fits t := by
  refine T.by_kids (P := fun t => tsize t ≤ 1000000000 → Fits t) (fun t H ht => ?_) t h
  obtain ⟨h1, h2⟩ := kids_small ht
  exact .mk t (by omega) (fun k hk => H k hk (h2 k hk))
theorem ty_cons (n : ByteArray) (x : PR) (l : List PR) : ty n (x :: l) = if x.n = n then x.t else ty n l := by
  unfold ty; rw [lk_cons]
  by_cases h : x.n = n
  · rw [if_pos h, if_pos h]; rfl
  · rw [if_neg h, if_neg h]
theorem ty_nil (n : ByteArray) : ty n [] = .var n := rfl
theorem leaf_at (t : T) (h : t.kids = []) (w : World) (a : Option Addr) (c : Nat) : TysAt w (.slice a t.kids.length c) t.kids := by rw [h]; exact TysAt.nil w a c

def tA : T := .var ⟨#[97]⟩
def tB : T := .var ⟨#[98]⟩
def tInt : T := .con ⟨#[73, 110, 116]⟩ []
def pInt : PR := ⟨⟨#[97]⟩, tInt, none, 0⟩
theorem app_int : app [pInt] tA = tInt := by rw [tA, app, ty_cons]; exact if_pos rfl
end Go.Proofs.YtjnlchhikdfifaaGreatDoor
/- A region that draws its order, by an invariant: each operation is run once, at whatever state meets the facts on those that it waits for. -/
namespace Go.Proofs.YtjnlchhikdfifaaGreatDoor

def upd (x : Nat → Value) (i : Nat) (v : Value) : Nat → Value := fun j => if j = i then v else x j
theorem upd_same (x : Nat → Value) (i : Nat) (v : Value) : upd x i v i = v := by simp [upd]
theorem upd_other (x : Nat → Value) {i j : Nat} (v : Value) (h : j ≠ i) : upd x i v j = x j := by simp [upd, h]

def AllAt (f : Nat → Oper → Prop) : Nat → List Oper → Prop
  | _, [] => True
  | n, o :: os => f n o ∧ AllAt f (n + 1) os

theorem AllAt.get {f : Nat → Oper → Prop} : ∀ {l : List Oper} {n : Nat}, AllAt f n l → ∀ {i : Nat} {o : Oper}, l[i]? = some o → f (n + i) o
  | [], _, _, i, o, h => by simp at h
  | a :: l, n, hl, 0, o, h => by simp at h; subst h; exact hl.1
  | a :: l, n, hl, i + 1, o, h => by
    have := AllAt.get hl.2 (i := i) (o := o) (by simpa using h)
    rw [show n + (i + 1) = n + 1 + i by omega]; exact this

/-- What is asked of operation 'o', number 'i'. -/
structure StepAt (P : Program) (fr : (Nat → Value) → Act) (S : World → Prop) (Rel : World → World → Prop) (Vals : Nat → Value → World → Prop)
    (ops : Array Oper) (Q : Exit → Act → World → Prop) (i : Nat) (o : Oper) : Prop where
  back : ∀ e ∈ o.after, Region.binds .any e = true → e.on < i
  put : ∀ x v, (fr x).put o.dst v = fr (upd x i v)
  run : ∀ (x : Nat → Value) (w : World), S w → (∀ e ∈ o.after, Region.binds .any e = true → Vals e.on (x e.on) w) →
    ∀ K : Act → World → Prop, (∀ v w', Rel w w' → Vals i v w' → K ((fr x).put o.dst v) w') →
      if Region.wanted o (yielded ops (fr x).tmps) = true then Oper.wp P o (fr x) w K Q else K ((fr x).put o.dst undef) w

section
variable {P : Program} {ops : Array Oper} {Q : Exit → Act → World → Prop} {fr : (Nat → Value) → Act} {S : World → Prop} {Rel : World → World → Prop} {Vals : Nat → Value → World → Prop}

theorem all_of_none (hback : ∀ i o, ops[i]? = some o → ∀ e ∈ o.after, Region.binds .any e = true → e.on < i) {listed : Array Bool} (hz : listed.size = ops.size)
    (h : Region.ready .any ops listed = []) : ∀ i, i < ops.size → listed.getD i false = true := by
  intro i
  induction i using Nat.strongRecOn with
  | ind i ih =>
    intro hi
    cases hl : listed.getD i false with
    | true => rfl
    | false =>
      have : i ∈ Region.ready .any ops listed := mem_ready.2 ⟨by
        have : i < listed.size := by omega
        simp [this] at hl ⊢; exact hl, ops[i], Array.getElem?_eq_getElem hi, fun e he hb => by
          have hlt := hback i ops[i] (Array.getElem?_eq_getElem hi) e he hb
          exact ih e.on hlt (by omega)⟩
      rw [h] at this; cases this

theorem inv_any (hput : ∀ i o, ops[i]? = some o → StepAt P fr S Rel Vals ops Q i o)
    (hrel : ∀ w w', S w → Rel w w' → S w') (hval : ∀ i v w w', S w → Vals i v w → Rel w w' → Vals i v w')
    (hfin : ∀ x w, S w → (∀ i, i < ops.size → Vals i (x i) w) → Q .normal (fr x) w) :
    ∀ (fuel : Nat) (listed : Array Bool) (x : Nat → Value) (w : World), listed.size = ops.size → ops.size ≤ fuel + listed.toList.count true → S w →
      (∀ i, listed.getD i false = true → Vals i (x i) w) → wpAny P .any ops Q fuel listed (fr x) w := by
  have hend : ∀ (listed : Array Bool) (x : Nat → Value) (w : World), listed.size = ops.size → S w → (∀ i, listed.getD i false = true → Vals i (x i) w) →
      Region.ready .any ops listed = [] → Q .normal (fr x) w := fun listed x w hz hS hV h =>
    hfin x w hS fun i hi => hV i (all_of_none (fun i o h => (hput i o h).back) hz h i hi)
  intro fuel
  induction fuel with
  | zero =>
    intro listed x w hz hc hS hV
    have hall : listed.toList.count true = listed.toList.length := by
      have := List.count_le_length (a := true) (l := listed.toList)
      simp at this hc ⊢; omega
    have hr : Region.ready .any ops listed = [] := by
      cases h : Region.ready .any ops listed with
      | nil => rfl
      | cons i l =>
        have hi : i ∈ Region.ready .any ops listed := by rw [h]; simp
        obtain ⟨h0, o, ho, _⟩ := mem_ready.1 hi
        have hlt : i < listed.size := by rw [hz]; exact (Array.getElem?_eq_some_iff.1 ho).1
        have := List.count_eq_length.1 hall listed[i] (by simp)
        simp [hlt] at h0
        rw [h0] at this; cases this
    exact ⟨hr, hend listed x w hz hS hV hr⟩
  | succ fuel ih =>
    intro listed x w hz hc hS hV
    refine ⟨hend listed x w hz hS hV, fun i hi => ?_⟩
    obtain ⟨h0, o, ho, hdep⟩ := mem_ready.1 hi
    have hlt : i < listed.size := by rw [hz]; exact (Array.getElem?_eq_some_iff.1 ho).1
    have h0' : listed[i] = false := by simpa [hlt] using h0
    have H := hput i o ho
    have hK : ∀ v w', Rel w w' → Vals i v w' → wpAny P .any ops Q fuel (listed.setIfInBounds i true) ((fr x).put o.dst v) w' := fun v w' hr hv => by
      rw [H.put]
      refine ih _ _ _ (by simpa using hz) ?_ (hrel w w' hS hr) fun j hj => ?_
      · have : (listed.setIfInBounds i true).toList.count true = listed.toList.count true + 1 := by
          rw [Array.toList_setIfInBounds, List.count_set (by simpa using hlt)]
          simp [h0']
        omega
      · by_cases hji : j = i
        · subst hji; rw [upd_same]; exact hv
        · rw [upd_other x v hji]
          exact hval _ _ _ _ hS (hV j (by rw [getD_set_ne false (Ne.symm hji)] at hj; exact hj)) hr
    have := H.run x w hS (fun e he hb => hV e.on (hdep e he hb)) _ hK
    unfold wpOp
    simp only [ho]
    split
    · rename_i hw; rw [if_pos hw] at this; exact .inl this
    · rename_i hw; rw [if_neg hw] at this; exact this

theorem region_inv (fr : (Nat → Value) → Act) (S : World → Prop) (Rel : World → World → Prop) (Vals : Nat → Value → World → Prop) (x0 : Nat → Value) {id : Nat} {a : Act} {w : World}
    (hm : P.follows .mixedOrders = true) (ha : a = fr x0) (hS : S w.drew)
    (hrel : ∀ w w', S w → Rel w w' → S w') (hval : ∀ i v w w', S w → Vals i v w → Rel w w' → Vals i v w')
    (hops : AllAt (StepAt P fr S Rel Vals ops Q) 0 ops.toList)
    (hfin : ∀ x w, S w → (∀ i, i < ops.size → Vals i (x i) w) → Q .normal (fr x) w) : (Code.region id ops true).wp P Q a w := by
  subst ha
  refine wp_region_any hm ?_
  exact inv_any (fun i o h => by have := hops.get (i := i) (o := o) (by simpa using h); rwa [Nat.zero_add] at this) hrel hval hfin _ _ _ _ (by simp) (by simp) hS
    (fun i hi => by
      by_cases h : i < ops.size
      · simp [h] at hi
      · simp [h] at hi)
end
end Go.Proofs.YtjnlchhikdfifaaGreatDoor
