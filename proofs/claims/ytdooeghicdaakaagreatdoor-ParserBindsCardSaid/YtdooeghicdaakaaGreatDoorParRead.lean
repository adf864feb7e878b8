/- The reader's own methods: the word ahead, whether it is a text, faults, words taken. -/
import Derived.Test.YtdooeghicdaakaaGreatDoorParMem
import Derived.Deep.RegionWith
namespace Go.Proofs.YtdooeghicdaakaaGreatDoor
open Go.RowKit
attribute [local go_sem] Oper.semAt_some

theorem word_eq (c : Cx) (s : St) : word c s = ahead c s 0 := rfl
theorem ahead_lt (c : Cx) (s : St) (n : Nat) (h : s.next + n < c.ws.length) : ahead c s n = c.ws[s.next + n] := by simp [ahead, h]
theorem ahead_ge (c : Cx) (s : St) (n : Nat) (h : ¬ s.next + n < c.ws.length) : ahead c s n = ⟨0, c.len, ⟨#[]⟩, 0⟩ := by simp [ahead, h]

theorem field_tok0 (a b c d : Value) (w : World) : (Instr.field 52 (.agg #[a, b, c, d]) 0).run Tryz.prog w = .ok a w := by kernel_rfl
theorem field_tok1 (a b c d : Value) (w : World) : (Instr.field 52 (.agg #[a, b, c, d]) 1).run Tryz.prog w = .ok b w := by kernel_rfl
theorem field_tok2 (a b c d : Value) (w : World) : (Instr.field 52 (.agg #[a, b, c, d]) 2).run Tryz.prog w = .ok c w := by kernel_rfl
attribute [local go_sem] field_tok0 field_tok1 field_tok2
theorem wdV_eq (x : Wd) : wdV x = .agg #[.int .i64 x.kind, .int .i64 x.pos, .string x.text, .int .i64 x.num] := rfl
set_option maxRecDepth 100000 in
set_option maxHeartbeats 1000000 in
theorem ahead_any (c : Cx) (q : Er) (R : Nat) (s : St) (n : Nat) (hn : n ≤ 20000) (w : World) (h : Rd c q R s w) :
    Calls Tryz.prog 28 #[.pointer (some ⟨R, 0, none⟩), .int .i64 (n : Int)] w fun e w' => e = .returned (wdV (ahead c s n)) ∧ Below w.heap.size w w' := by
  have hR := h.lt
  obtain ⟨a, cap, fv, ⟨c0, c1, c2, c3, c4⟩, hf, ⟨b1, b2, b3⟩, hF, hw⟩ := h.open
  clear h hf c3 c4 hF
  by_cases hlt : s.next + n < c.ws.length
  · obtain ⟨g, rfl, hcap, x0, x1, x2, x3⟩ := hw _ hlt
    clear hw
    have hg : g < w.heap.size := World.block_lt_of_cell? _ _ x0
    have hl2 : ((s.next : Int) + (n : Int) < (c.ws.length : Int)) := by omega
    rw [ahead_lt c s n hlt]
    generalize c.ws[s.next + n] = x at x0 x1 x2 x3 ⊢
    have hix : ((s.next : Int) + (n : Int)).toNat = s.next + n := by omega
    have hi0 : (0 : Int) ≤ (s.next : Int) + (n : Int) := by omega
    go_enter Tryz.func28, Tryz.ntmps28
    go_wp2
    exact bodyPost_ret (v := wdV x) (by simp [results, Tryz.results28, go_sem, wdV]) rfl ⟨rfl, (Below.refl _ w).alloc (Nat.le_refl _) _⟩
  · clear hw
    have hl2 : ¬ ((s.next : Int) + (n : Int) < (c.ws.length : Int)) := by omega
    rw [ahead_ge c s n hlt]
    go_enter Tryz.func28, Tryz.ntmps28
    go_wp2
    exact bodyPost_ret (v := wdV ⟨0, c.len, ⟨#[]⟩, 0⟩) (by simp [results, Tryz.results28, go_sem, wdV]) rfl ⟨rfl, (Below.refl _ w).alloc (Nat.le_refl _) _⟩

set_option maxRecDepth 100000 in
set_option maxHeartbeats 1000000 in
theorem rword_any (c : Cx) (q : Er) (R : Nat) (s : St) (w : World) (h : Rd c q R s w) :
    Calls Tryz.prog 16 #[.pointer (some ⟨R, 0, none⟩)] w fun e w' => e = .returned (wdV (word c s)) ∧ Below w.heap.size w w' := by
  have H := Lib.hid h; clear h
  obtain ⟨x, hx⟩ : ∃ x, word c s = x := ⟨_, rfl⟩
  have HX := Lib.hid hx
  rw [hx]; clear hx
  have HB := Lib.hid (fun o : Obj => (Below.refl w.heap.size w).alloc (Nat.le_refl _) o)
  go_enter Tryz.func16, Tryz.ntmps16
  go_wp2_with (go_at_call 28; refine (ahead_any c q R s 0 (by omega) _ (H.out.below (HB.out _))).mono ?_)
  rintro e w2 ⟨rfl, hb⟩
  rw [← word_eq, HX.out, wdV_eq]
  have HB2 := Lib.hid ((HB.out _).trans (hb.mono (by simp)))
  have k := (hb.block w.heap.size (by simp)).trans (World.alloc_heap_new w _)
  obtain ⟨k0, k1, k2, k3⟩ := cells4 k
  have kf := fun i => Lib.frozen_of_heap k i
  clear hb k
  go_wp2
  exact bodyPost_ret (v := wdV x) (by simp [results, Tryz.results16, go_sem, wdV, k0, k1, k2, k3]) rfl ⟨rfl, (((HB2.out.setCell (p := ⟨w.heap.size, 0, none⟩) (Nat.le_refl _) _).setCell (p := ⟨w.heap.size, 1, none⟩) (Nat.le_refl _) _).setCell (p := ⟨w.heap.size, 2, none⟩) (Nat.le_refl _) _).setCell (p := ⟨w.heap.size, 3, none⟩) (Nat.le_refl _) _⟩

set_option maxRecDepth 100000 in
set_option maxHeartbeats 1000000 in
theorem ended_any (c : Cx) (q : Er) (R : Nat) (s : St) (w : World) (h : Rd c q R s w) :
    Calls Tryz.prog 14 #[.pointer (some ⟨R, 0, none⟩)] w fun e w' => e = .returned (.bool (decide (s.next = c.ws.length))) ∧ Below w.heap.size w w' := by
  obtain ⟨a, cap, fv, ⟨c0, c1, c2, c3, c4⟩, hf, ⟨b1, b2, b3⟩, hF, hw⟩ := h.open
  clear h hf c2 c3 c4 hF hw
  go_enter Tryz.func14, Tryz.ntmps14
  go_wp2
  go_quiet (fail)
  go_wp2
  go_ret
  exact ⟨ret_bool (by rw [Bool.eq_iff_iff]; simp; omega), below_drewN (Below.refl _ _) _⟩

set_option maxRecDepth 100000 in
set_option maxHeartbeats 1000000 in
theorem is_any (c : Cx) (q : Er) (R : Nat) (s : St) (t : ByteArray) (w : World) (h : Rd c q R s w) :
    Calls Tryz.prog 55 #[.pointer (some ⟨R, 0, none⟩), .string t] w fun e w' => e = .returned (.bool (isT c s t.data.toList)) ∧ Below w.heap.size w w' := by
  have H := Lib.hid h; clear h
  unfold isT
  go_enter Tryz.func55, Tryz.ntmps55
  go_wp2_with (go_at_call 16; refine (rword_any c q R s _ H.out).mono ?_)
  rintro e w2 ⟨rfl, hb⟩
  rw [wdV_eq]
  have HB2 := Lib.hid hb; clear hb
  go_wp2
  go_ret
  exact ⟨ret_bool (by rw [Lib.toList_data, Lib.toList_data]), HB2.out⟩

/-- Where a fault's value is nil. -/
theorem fault_none {w : World} {aP aL : Addr} {v : Value} (h : FaultAt w aP aL none v) : v = .nilIface := h
def errOf (q : Er) (lim : Bool) : Value := errL (if lim then q.aL else q.aP)

set_option maxRecDepth 100000 in
set_option maxHeartbeats 1000000 in
theorem fail_any (c : Cx) (q : Er) (R : Nat) (s : St) (p : Int) (lim : Bool) (w : World) (h : Rd c q R s w) :
    Calls Tryz.prog 27 #[.pointer (some ⟨R, 0, none⟩), .int .i64 p, errOf q lim] w fun e w' => e = .returned (.tuple #[]) ∧ Rd c q R (failS c s p lim) w' ∧ Fr R w w' := by
  have hR := h.lt
  obtain ⟨a, cap, fv, ⟨c0, c1, c2, c3, c4⟩, hf, ⟨b1, b2, b3⟩, hF, hw⟩ := h.open
  have H := Lib.hid h
  have f1 := hf 1
  have f4 := hf 4
  clear h hw c2 c3 hf
  unfold failS
  match hfl : s.fault with
  | none =>
    rw [hfl] at hF
    obtain rfl := fault_none hF
    have HFl := Lib.hid hfl
    clear hF hfl
    have HB := Lib.hid (fun o : Obj => (Below.refl w.heap.size w).alloc (Nat.le_refl _) o)
    unfold errOf errL
    obtain ⟨ad, had⟩ : ∃ ad, (if lim then q.aL else q.aP) = ad := ⟨_, rfl⟩
    rw [had]
    have HAd := Lib.hid had; clear had
    go_enter Tryz.func27, Tryz.ntmps27
    go_wp2
    go_end0
    rw [← World.setCell_alloc_past _ R 1 _ (by simpa using hR), ← World.setCell_alloc_past _ R 4 _ (by simpa using hR)]
    refine ⟨rfl, ?_, ?_⟩
    · have r1 := H.out.below (HB.out (.cells #[.int .i64 p, .iface 133 (.pointer (some ad))] 90))
      have r2 := r1.setFault (some (p, lim)) (v := errVal w.heap.size) ⟨w.heap.size, rfl, by rw [HAd.out]; exact World.alloc_heap_new w _⟩
      exact r2.setNext c.ws.length (Nat.le_refl _) rfl
    · exact ((Fr.of_below (HB.out _) (Nat.le_of_lt hR)).trans (Fr.set _ 4 _)).trans (Fr.set _ 1 _)
  | some (p', l') =>
    rw [hfl] at hF
    obtain ⟨b, rfl, hb⟩ := hF
    have HFl := Lib.hid hfl
    clear hb hfl
    unfold errOf errL
    obtain ⟨ad, had⟩ : ∃ ad, (if lim then q.aL else q.aP) = ad := ⟨_, rfl⟩
    rw [had]
    clear had
    unfold errVal at c4
    go_enter Tryz.func27, Tryz.ntmps27
    go_wp2
    go_end0
    refine ⟨rfl, ?_, Fr.set _ 1 _⟩
    have := H.out.setNext c.ws.length (Nat.le_refl _) rfl
    simpa [HFl.out] using this

theorem Rd.drew {c : Cx} {q : Er} {R : Nat} {s : St} {w : World} (h : Rd c q R s w) : Rd c q R s w.drew := h
theorem Fr.drew {R : Nat} {a b : World} (h : Fr R a b) : Fr R a b.drew := ⟨h.1.drew, h.2⟩
theorem Fr.fromDrew {R : Nat} {a b : World} (h : Fr R a.drew b) : Fr R a b := (Fr.drew (Fr.refl R a)).trans h
theorem Rd.errs {c : Cx} {q : Er} {R : Nat} {s : St} {w : World} (h : Rd c q R s w) : w.cell? ⟨0, 0, none⟩ = some (.iface 133 (.pointer (some q.aP))) ∧ w.cell? ⟨1, 0, none⟩ = some (.iface 133 (.pointer (some q.aL))) := h.2.1

set_option maxRecDepth 100000 in
set_option maxHeartbeats 2000000 in
theorem wrong_any (c : Cx) (q : Er) (R : Nat) (s : St) (w : World) (h : Rd c q R s w) :
    Calls Tryz.prog 15 #[.pointer (some ⟨R, 0, none⟩)] w fun e w' => e = .returned (.tuple #[]) ∧ Rd c q R (wrongS c s) w' ∧ Fr R w w' := by
  have hR := h.lt
  have e1 := h.errs.1
  have H := Lib.hid h; clear h
  unfold wrongS
  obtain ⟨x, hx⟩ : ∃ x, word c s = x := ⟨_, rfl⟩
  have HX := Lib.hid hx
  rw [hx]; clear hx
  have HFail := Lib.hid (fun W (h : Rd c q R s W) => fail_any c q R s x.pos false W h)
  unfold errOf errL at HFail
  simp only [Bool.false_eq_true, if_false] at HFail
  go_enter Tryz.func15, Tryz.ntmps15
  go_wp2
  go_region_with (first
    | (go_at_call 16; refine (rword_any c q R s _ H.out.drew).mono ?_; rintro e w2 ⟨rfl, hb⟩; rw [HX.out, wdV_eq]; have H2 := Lib.hid (H.out.drew.below hb); have e2 := (H.out.drew.below hb).errs.1; have F2 := Lib.hid ((Fr.of_below hb (Nat.le_of_lt H.out.lt)).fromDrew); clear hb)
    | (go_at_call 27; refine (HFail.out _ H2.out).mono ?_; rintro e w3 ⟨rfl, h3, f3⟩; have H3 := Lib.hid h3; have F3 := Lib.hid f3; clear h3 f3))
  all_goals go_wp2
  all_goals go_end0
  all_goals exact ⟨rfl, H3.out, F2.out.trans F3.out⟩

theorem skips_lt {c : Cx} {s : St} {t : List UInt8} (h : skips c s t = true) : s.next < c.ws.length ∧ isT c s t = true := by
  unfold skips at h; simpa using h

set_option maxRecDepth 100000 in
set_option maxHeartbeats 2000000 in
theorem skip_of (c : Cx) (q : Er) (R : Nat) (s : St) (t : ByteArray) (w : World) (h : Rd c q R s w) :
    Calls Tryz.prog 46 #[.pointer (some ⟨R, 0, none⟩), .string t] w fun e w' => e = .returned (.bool (skips c s t.data.toList)) ∧ Rd c q R (skipS c s t.data.toList) w' ∧ Fr R w w' := by
  have hR := h.lt
  have hn := h.2.2.2.1
  have hn3 := h.2.2.2.2.2
  have H := Lib.hid h; clear h
  have HE := Lib.hid (fun W (h : Rd c q R s W) => ended_any c q R s W h)
  have HI := Lib.hid (fun W (h : Rd c q R s W) => is_any c q R s t W h)
  unfold skipS skips
  by_cases hd : s.next = c.ws.length
  · have hd' : decide (s.next < c.ws.length) = false := by simp; omega
    rw [hd', Bool.false_and]
    simp only [hd, decide_true] at HE
    clear hd hd' hn
    go_enter Tryz.func46, Tryz.ntmps46
    go_wp2_with (go_at_call 14; refine (HE.out _ H.out).mono ?_; rintro e w2 ⟨rfl, hb⟩; have H2 := Lib.hid (H.out.below hb); have F2 := Lib.hid (Fr.of_below hb (Nat.le_of_lt H.out.lt)); clear hb)
    go_ret
    exact ⟨rfl, H2.out, F2.out⟩
  · have hlt : s.next < c.ws.length := by omega
    rw [decide_eq_true hlt, Bool.true_and]
    rw [show decide (s.next = c.ws.length) = false by simpa using hd] at HE
    clear hd
    cases hi : isT c s t.data.toList with
    | false =>
      rw [hi] at HI
      clear hi
      go_enter Tryz.func46, Tryz.ntmps46
      go_wp2_with (first
        | (go_at_call 14; refine (HE.out _ H.out).mono ?_; rintro e w2 ⟨rfl, hb⟩; have H2 := Lib.hid (H.out.below hb); have F2 := Lib.hid (Fr.of_below hb (Nat.le_of_lt H.out.lt)); clear hb)
        | (go_at_call 55; refine (HI.out _ H2.out).mono ?_; rintro e w3 ⟨rfl, hb⟩; have H3 := Lib.hid (H2.out.below hb); have F3 := Lib.hid (F2.out.trans (Fr.of_below hb (Nat.le_of_lt H2.out.lt))); clear hb))
      go_ret
      exact ⟨rfl, H3.out, F3.out⟩
    | true =>
      rw [hi] at HI
      clear hi
      go_enter Tryz.func46, Tryz.ntmps46
      go_wp2_with (first
        | (go_at_call 14; refine (HE.out _ H.out).mono ?_; rintro e w2 ⟨rfl, hb⟩; have H2 := Lib.hid (H.out.below hb); have F2 := Lib.hid (Fr.of_below hb (Nat.le_of_lt H.out.lt)); clear hb)
        | (go_at_call 55; refine (HI.out _ H2.out).mono ?_; rintro e w3 ⟨rfl, hb⟩; have H3 := Lib.hid (H2.out.below hb); have F3 := Lib.hid (F2.out.trans (Fr.of_below hb (Nat.le_of_lt H2.out.lt))); clear hb; obtain ⟨a, cap, fv, ⟨c0, c1, _, _, _⟩, hf, _⟩ := H3.out.open; have f1 := hf 1; clear hf c0))
      go_ret
      refine ⟨rfl, H3.out.setNext (s.next + 1) hlt (by go_num), F3.out.trans (Fr.set _ 1 _)⟩

set_option maxRecDepth 100000 in
set_option maxHeartbeats 2000000 in
theorem need_any (c : Cx) (q : Er) (R : Nat) (s : St) (t : ByteArray) (w : World) (h : Rd c q R s w) :
    Calls Tryz.prog 29 #[.pointer (some ⟨R, 0, none⟩), .string t] w fun e w' => e = .returned (.tuple #[]) ∧ Rd c q R (needS c s t.data.toList) w' ∧ Fr R w w' := by
  have HS := Lib.hid (skip_of c q R s t w h); clear h
  unfold needS
  unfold skipS at HS
  cases hi : skips c s t.data.toList with
  | false =>
    rw [hi] at HS
    clear hi
    simp only [Bool.false_eq_true, if_false] at HS ⊢
    go_enter Tryz.func29, Tryz.ntmps29
    go_wp2_with (first
      | (go_at_call 46; refine HS.out.mono ?_; rintro e w2 ⟨rfl, h2, f2⟩; have H2 := Lib.hid h2; have F2 := Lib.hid f2; clear h2 f2)
      | (go_at_call 15; refine (wrong_any c q R s _ H2.out).mono ?_; rintro e w3 ⟨rfl, h3, f3⟩; have H3 := Lib.hid h3; have F3 := Lib.hid f3; clear h3 f3))
    go_end0
    exact ⟨rfl, H3.out, F2.out.trans F3.out⟩
  | true =>
    rw [hi] at HS
    clear hi
    simp only [if_true] at HS ⊢
    go_enter Tryz.func29, Tryz.ntmps29
    go_wp2_with (first
      | (go_at_call 46; refine HS.out.mono ?_; rintro e w2 ⟨rfl, h2, f2⟩; have H2 := Lib.hid h2; have F2 := Lib.hid f2; clear h2 f2))
    go_end0
    exact ⟨rfl, H2.out, F2.out⟩
end Go.Proofs.YtdooeghicdaakaaGreatDoor
