/- slices.DeleteFunc of a row of pairs: those that are their own type go. -/
import Derived.Test.YtmbaolcdjgilpaaSbCompact
namespace Go.Proofs.Ytmbaolcdjgilpaa
open Go.RowKit Go.Sort Go.Lib
attribute [local go_sem] Oper.semAt_some

set_option maxHeartbeats 1000000 in
theorem tvar_any (n : ByteArray) (w : World) :
    Calls Try.prog 36 #[.string n] w fun e w' => (∃ u, e = .returned (tyV (.var n) u) ∧ TysAt w' u []) ∧ Below w.heap.size w w' := by
  go_enter Try.func36, Try.ntmps36
  go_wp2
  refine bodyPost_ret (v := tyV (.var n) (.slice none 0 0)) (by simp [results, Try.results36, go_sem, tyV, T.kind, T.name]) rfl ⟨⟨_, rfl, TysAt.nil _ _ _⟩, (Below.refl _ w).alloc (Nat.le_refl _) _⟩
theorem four_cells {w : World} {p : Nat} {x y z u : Value} {T : TypeId} {fz : Nat × Nat} (h : w.heap[p]? = some (.cells #[x, y, z, u] T fz)) : w.cell? ⟨p, 0, none⟩ = some x ∧ w.cell? ⟨p, 1, none⟩ = some y ∧ w.cell? ⟨p, 2, none⟩ = some z ∧ w.cell? ⟨p, 3, none⟩ = some u := by
  refine ⟨?_, ?_, ?_, ?_⟩ <;> (rw [Lib.cell_of_heap h]; rfl)

theorem ownP_eq (x : PR) : (cmpT x.t (.var x.n) == 0) = ownP x := by
  rw [Bool.eq_iff_iff, ownP_iff, beq_iff_eq]; exact cmp_zero _ _

set_option maxHeartbeats 2000000 in
theorem isOwn_any (x : PR) (w : World) (hf : Fits x.t) (h : TysAt w (.slice x.a x.t.kids.length x.c) x.t.kids) :
    Calls Try.prog 45 #[pairV x] w fun e w' => e = .returned (.bool (ownP x)) ∧ Below w.heap.size w w' := by
  have HS := Lib.hid (fun (u : Value) (W : World) (k : KeepT w W) (hu : TysAt W u []) => same_any (t' := .var x.n) (v' := u) (w := W) hf (h.keep k) hu)
  simp only [ownP_eq] at HS
  generalize ownP x = r at *
  have HV := Lib.hid (fun W => tvar_any x.n W)
  have HB := Lib.hid (show ∀ o1 : Obj, Below w.heap.size w (w.alloc o1) from fun o1 => (Below.refl _ w).alloc (Nat.le_refl _) _)
  clear h hf
  simp only [pairV, tyV] at HS ⊢
  go_enter Try.func45, Try.ntmps45
  go_wp2
  go_region_with (first
    | (go_at_call 36; refine (HV.out _).mono ?_; rintro e w2 ⟨⟨u, rfl, hu⟩, hb2⟩; obtain ⟨b0, b1, b2, b3⟩ := four_cells ((hb2.block w.heap.size (by simp)).trans (alloc_new w _)); have HU := Lib.hid hu; have HB2 := Lib.hid ((HB.out _).drew.trans (hb2.mono (by simp))); clear hu hb2; simp only [tyV])
    | (go_at_call 51; refine (HS.out _ _ ?kk HU.out).mono ?_; (case kk => exact KeepT.of_below HB2.out); rintro e w3 ⟨rfl, hb3⟩; have HB3 := Lib.hid (HB2.out.trans (hb3.mono HB2.out.size)); clear hb3))
  all_goals go_wp2
  all_goals go_ret
  all_goals exact ⟨rfl, HB3.out⟩

/-- Each type's lists are no longer than any memory. -/
def FitsAll (d : List PR) : Prop := ∀ x ∈ d, Fits x.t
theorem getD_mem {d : List PR} {i : Nat} (h : i < d.length) : d.getD i noP ∈ d := by
  have : d.getD i noP = d[i] := by simp [List.getD, h]
  rw [this]; exact List.getElem_mem h

set_option maxHeartbeats 2000000 in
theorem index_any (g cap : Nat) (d : List PR) (w : World) (h : RowP g d w) (ht : Typ d w) (hf : FitsAll d) (hl : d.length < 1152921504606846976) :
    Calls Try.prog 50 #[.slice (some ⟨g, 0, none⟩) d.length cap, .func (.func 45) #[] #[]] w fun e w' =>
      (∃ r : Int, e = .returned (.int .i64 r) ∧ ((r = -1 ∧ ∀ j, j < d.length → ownP (d.getD j noP) = false) ∨ ∃ k : Nat, r = k ∧ k < d.length ∧ ownP (d.getD k noP) = true ∧ ∀ j, j < k → ownP (d.getD j noP) = false)) ∧ Below w.heap.size w w' := by
  have HH := Lib.hid h; have HT := Lib.hid ht; have HF := Lib.hid hf
  clear h ht hf
  go_enter Try.func50, Try.ntmps50
  go_wp2
  go_loopw [8] (fun vk wr => ∃ k : Nat, k ≤ d.length ∧ vk = .int .i64 k ∧ Hid (Below w.heap.size w wr) ∧ Hid (∀ j, j < k → ownP (d.getD j noP) = false)) (fun vk _ => d.length - (intOf vk).toNat)
  case atStart => exact ⟨0, Nat.zero_le _, rfl, Lib.hid (Below.refl _ _), Lib.hid fun j hj => absurd hj (Nat.not_lt_zero _)⟩
  case round =>
    obtain ⟨k, hk, rfl, hB, hall⟩ := hrel
    by_cases hlt : k < d.length
    · obtain ⟨x0, x1, x2, x3⟩ := (HH.out.below hB.out).cells hlt
      have HC := Lib.hid (isOwn_any (d.getD k noP) wr (HF.out _ (getD_mem hlt)) ((HT.out _ (getD_mem hlt)).keep (KeepT.of_below hB.out)))
      obtain ⟨bb, hbb⟩ : ∃ b, ownP (d.getD k noP) = b := ⟨_, rfl⟩
      have HO := Lib.hid hbb
      rw [hbb] at HC
      clear hbb
      generalize d.getD k noP = x at x0 x1 x2 x3 HC
      simp only [pairV] at HC
      cases bb with
      | true =>
        go_wp2_with (go_at_call 45; refine HC.out.mono ?_)
        rintro e w2 ⟨rfl, hb2⟩
        have HB2 := Lib.hid (hB.out.trans (hb2.mono hB.out.size))
        clear hb2
        go_wp2
        go_ret
        exact ⟨⟨_, rfl, .inr ⟨k, rfl, hlt, HO.out, hall.out⟩⟩, HB2.out⟩
      | false =>
        go_wp2_with (go_at_call 45; refine HC.out.mono ?_)
        rintro e w2 ⟨rfl, hb2⟩
        have HB2 := Lib.hid (hB.out.trans (hb2.mono hB.out.size))
        clear hb2
        go_wp2
        refine ⟨⟨k + 1, by omega, by go_num, HB2, Lib.hid fun j hj => ?_⟩, by simp [intOf]; omega⟩
        by_cases e : j = k
        · subst e; exact HO.out
        · exact hall.out j (by omega)
    · obtain rfl : k = d.length := by omega
      go_wp2
      go_ret
      exact ⟨⟨_, rfl, .inl ⟨rfl, hall.out⟩⟩, hB.out⟩

set_option maxHeartbeats 4000000 in
theorem delete_any (g cap : Nat) (d : List PR) (w : World) (h : RowP g d w) (ht : Typ d w) (hf : FitsAll d) (hc : d.length ≤ cap) (hl : d.length < 1152921504606846976) :
    Calls Try.prog 44 #[.slice (some ⟨g, 0, none⟩) d.length cap, .func (.func 45) #[] #[]] w fun e w' =>
      e = .returned (.slice (some ⟨g, 0, none⟩) (d.filter fun x => !ownP x).length cap) ∧ RowP g (d.filter fun x => !ownP x) w' ∧ Fr g w w' := by
  have HH := Lib.hid h; have HT := Lib.hid ht; have HF := Lib.hid hf
  have HI := Lib.hid (index_any g cap d w h ht hf hl)
  obtain ⟨A, hA⟩ : ∃ A, d.toArray = A := ⟨_, rfl⟩
  have hAs : A.size = d.length := by rw [← hA]; simp
  have hAl : A.toList = d := by rw [← hA]
  have HA := Lib.hid hAl
  obtain ⟨kp, HK⟩ : ∃ kp : Nat → Bool, Hid (kp = fun j => !ownP A[j]!) := ⟨_, rfl⟩
  have hfil : (d.filter fun x => !ownP x) = keptUpTo kp A d.length := by rw [HK.out, ← hAs, ← hAl]; exact (keptUpTo_filter (fun x => !ownP x) A).symm
  rw [hfil]
  obtain ⟨res, hres⟩ : ∃ r, keptUpTo kp A d.length = r := ⟨_, rfl⟩
  have HR := Lib.hid hres
  rw [hres]
  have hg : ∀ j, j < d.length → d.getD j noP = A[j]! := fun j hj => by rw [← hAl]; exact getD_bang A j (by omega)
  have HG := Lib.hid hg
  clear h ht hf hA hAl hfil hres hg
  go_enter Try.func44, Try.ntmps44
  go_wp2_with (go_at_call 50; refine HI.out.mono ?_)
  rintro e w1 ⟨⟨r, rfl, ⟨rfl, hall⟩ | ⟨k0, rfl, hk0, hown, hall⟩⟩, hb1⟩
  · have hres : res = d := by
      rw [← HR.out, keptUpTo_all _ _ _ (fun j hj => by rw [HK.out]; show (!ownP A[j]!) = true; rw [← HG.out j hj, hall j hj]; rfl), ← hAs, range_map_get, HA.out]
    subst hres
    have HB := Lib.hid hb1
    clear HR hall hb1
    go_wp2
    go_ret
    exact ⟨rfl, HH.out.below HB.out, Fr.of_below HB.out⟩
  · have hkeep : ∀ j, j < k0 → kp j = true := fun j hj => by rw [HK.out]; show (!ownP A[j]!) = true; rw [← HG.out j (by omega), hall j hj]; rfl
    have hdrop : kp k0 = false := by rw [HK.out]; show (!ownP A[k0]!) = false; rw [← HG.out k0 hk0, hown]; rfl
    have HS : Hid (KeptInv kp A (k0 + 1) k0 A) := Lib.hid (KeptInv.start hkeep hdrop)
    have HB := Lib.hid hb1
    have hne1 : ((k0 : Int) == -1) = false := beq_eq_false_iff_ne.2 (by omega)
    clear hkeep hdrop hall hown hb1
    go_wp2
    go_loopw [5, 6] (fun vk vk2 wr => ∃ (k m : Nat) (dk : Array PR), m ≤ d.length ∧ vk = .int .i64 k ∧ vk2 = .int .i64 m ∧ Hid (KeptInv kp A m k dk) ∧ Hid (RowP g dk.toList wr) ∧ Hid (Fr g w wr)) (fun _ vk2 _ => d.length - (intOf vk2).toNat)
    case atStart => exact ⟨k0, k0 + 1, A, by omega, by go_num, by go_num, HS, Lib.hid (by rw [HA.out]; exact HH.out.below HB.out), Lib.hid (Fr.of_below HB.out)⟩
    case round =>
      obtain ⟨k, m, dk, hm, rfl, rfl, hI, hRow, hF⟩ := hrel
      have hsz : dk.size = d.length := hI.out.size.trans hAs
      have hkm := hI.out.lt
      by_cases hlt : m < d.length
      · obtain ⟨x0, x1, x2, x3⟩ := hRow.out.cells (i := m) (by simp; omega)
        have e1 : dk.toList.getD m noP = d.getD m noP := by rw [getD_bang dk _ (by omega), HG.out m hlt]; exact hI.out.high _ (by omega)
        rw [e1] at x0 x1 x2 x3
        have hmem := getD_mem hlt
        have HC := Lib.hid (fun o => isOwn_any (d.getD m noP) (wr.alloc o) (HF.out _ hmem) ((HT.out _ hmem).keep ((hF.out.keepT HH.out).trans (keepT_alloc wr o))))
        have HKt := Lib.hid (fun (h : ownP (d.getD m noP) = false) => hI.out.keep (by omega) (by rw [HK.out]; show (!ownP A[m]!) = true; rw [← HG.out m hlt, h]; rfl))
        have HKf := Lib.hid (fun (h : ownP (d.getD m noP) = true) => hI.out.skip (by rw [HK.out]; show (!ownP A[m]!) = false; rw [← HG.out m hlt, h]; rfl))
        rw [← HG.out m hlt] at HKt
        clear e1 hmem
        obtain ⟨bb, hbb⟩ : ∃ b, ownP (d.getD m noP) = b := ⟨_, rfl⟩
        have HO := Lib.hid hbb
        rw [hbb] at HC
        clear hbb
        generalize d.getD m noP = x at *
        simp only [pairV] at HC
        have kz : (k : Int) < (d.length : Int) := by omega
        go_wp2_with (go_at_call 45; refine (HC.out _).mono ?_)
        rintro e w2 ⟨rfl, hb2⟩
        have bx := (hb2.block wr.heap.size (by simp)).trans (alloc_new wr _)
        obtain ⟨y0, y1, y2, y3⟩ := four_cells bx
        have HB2 := Lib.hid (((Below.refl _ wr).alloc (Nat.le_refl _) (.cells #[.string x.n, .int .i64 x.t.kind, .string x.t.name, .slice x.a x.t.kids.length x.c] 58)).trans (hb2.mono (by simp)))
        have HRw2 := Lib.hid (hRow.out.below HB2.out)
        have HFr2 := Lib.hid (hF.out.trans (Fr.of_below HB2.out))
        clear x0 x1 x2 x3 HC hb2 bx
        cases bb with
        | true =>
          clear y0 y1 y2 y3
          go_wp2
          go_roundw
          case rel => exact ⟨k, m + 1, dk, by omega, rfl, by go_num, Lib.hid (HKf.out HO.out), HRw2, HFr2⟩
          case measure => simp [intOf]; omega
        | false =>
          obtain ⟨o0, o1, o2, o3⟩ := HRw2.out.cells (i := k) (by simp; omega)
          have z0 := HRw2.out.free (k * 4)
          have z1 := HRw2.out.free (k * 4 + 1)
          have z2 := HRw2.out.free (k * 4 + 2)
          have z3 := HRw2.out.free (k * 4 + 3)
          clear HB2
          go_wp2
          go_roundw
          case rel => exact ⟨k + 1, m + 1, dk.setIfInBounds k x, by omega, by go_num, by go_num, Lib.hid (HKt.out HO.out), Lib.hid ((HRw2.out.set k x).of_eq (by simp)), Lib.hid (HFr2.out.trans (Fr.set4 g k _ x))⟩
          case measure => simp [intOf]; omega
      · obtain rfl : m = d.length := by omega
        have hcl : ∀ ty c, (Builtin.clear_ #[28] ty #[.slice (some ⟨g, k * 4, none⟩) (d.length - k) c]).run Try.prog wr = .ok (.tuple #[]) (wr.setCells g (k * 4) (Builtin.zeroCells zeroP (d.length - k)).toList) := fun ty c => by
          have := run_clear wr g k dk.toList hRow.out (by simp; omega) c ty
          rwa [show dk.toList.length = d.length by simpa using hsz] at this
        have hlow := hI.out.low
        have hlen := hI.out.len
        rw [HR.out] at hlow hlen
        have HTk : Hid (dk.toList.take k = res) := Lib.hid (by
          apply List.ext_getElem?
          intro j
          by_cases hj : j < k
          · rw [hlow j hj, List.getElem?_take_of_lt hj, ← getD_bang dk j (by omega)]
            simp [List.getD, show j < dk.size by omega]
          · rw [List.getElem?_eq_none (by simp; omega), List.getElem?_eq_none (by omega)])
        have HL := Lib.hid hlen
        have kz : (k : Int) ≤ (d.length : Int) := by omega
        have kz2 : (k : Int) ≤ (cap : Int) := by omega
        clear hlow hlen HR
        go_wp2
        go_ret
        exact ⟨by rw [HL.out]; rfl, (hRow.out.setCells k (by simp; omega) _).of_eq HTk.out, hF.out.trans (Fr.setCells g _ _ _)⟩
end Go.Proofs.Ytmbaolcdjgilpaa
