/- What stands by itself. -/
import Derived.Test.YtdooeghicdaakaaGreatDoorParBr
namespace Go.Proofs.YtdooeghicdaakaaGreatDoor
open Go.RowKit
attribute [local go_sem] Oper.semAt_some field_tok0 field_tok1 field_tok2

theorem kind_lt' {c : Cx} {s : St} (h : (word c s).kind ≠ 0) : s.next < c.ws.length := kind_lt h rfl
set_option maxRecDepth 100000 in
set_option maxHeartbeats 8000000 in
theorem atom_any (c : Cx) (q : Er) (R : Nat) (rec : St → E × St) (s : St) (h : begVar c s = false → isT c s [40] = true → TreeOK2 c q R 17 106 s (within c E.zero (inBr c rec) s)) : TreeOK c q R 96 s (atomF c rec s) := by
  intro w hrd
  have hR := hrd.lt
  have hn := hrd.2.2.2.1
  have hn3 := hrd.2.2.2.2.2
  have H := Lib.hid hrd; clear hrd
  have HB := Lib.hid (fun o : Obj => (Below.refl w.heap.size w).alloc (Nat.le_refl _) o)
  have HBv := Lib.hid (fun W (h : Rd c q R s W) => begVar_any c q R s W h)
  have hlt : (word c s).kind ≠ 0 → s.next < c.ws.length := kind_lt'
  have hT : isT c s [40] = ((word c s).text.data.toList == [40]) := rfl
  unfold atomF
  obtain ⟨x, hx⟩ : ∃ x, word c s = x := ⟨_, rfl⟩
  have HX := Lib.hid hx
  rw [hx] at hT hlt ⊢; clear hx
  cases hb : begVar c s with
  | true =>
    rw [hb] at HBv; clear hb h hlt hT
    simp only [if_true]
    have HN := Lib.hid (fun W (h : Rd c q R s W) => name_any' c q R s W h)
    obtain ⟨y, hy⟩ : ∃ y, nameP c s = y := ⟨_, rfl⟩
    rw [hy] at HN ⊢; clear hy
    obtain ⟨y, s2⟩ := y
    simp only at HN ⊢
    go_enter Tryz.func96, Tryz.ntmps96
    go_wp2_with (go_at_call 16; refine (rword_any c q R s _ (H.out.below (HB.out _))).mono ?_; rintro e w2 ⟨rfl, hb2⟩; rw [HX.out, wdV_eq]; have H2 := Lib.hid ((H.out.below (HB.out _)).below hb2); have B2 := Lib.hid ((HB.out _).trans (hb2.mono (by simp))); have k2 := (hb2.block w.heap.size (by simp)).trans (World.alloc_heap_new w _); have l2 : w.heap.size < w2.heap.size := (Array.getElem?_eq_some_iff.1 k2).1; have K2 := Lib.hid k2; clear hb2 k2)
    go_wp2_with (go_at_call 47; refine (HBv.out _ (H2.out.alloc _)).mono ?_; rintro e w3 ⟨rfl, hb3⟩; have H3 := Lib.hid ((H2.out.alloc (.cells #[.int .i64 x.kind, .int .i64 x.pos, .string x.text, .int .i64 x.num] 52)).below hb3); have B3 := Lib.hid ((B2.out.alloc (Nat.le_of_lt l2) (.cells #[.int .i64 x.kind, .int .i64 x.pos, .string x.text, .int .i64 x.num] 52)).trans (hb3.mono (by simp; omega))); have K3 := Lib.hid ((hb3.block w.heap.size (by simp; omega)).trans ((Below.heap_alloc w2 _ _ l2).trans K2.out)); clear hb3)
    go_wp2_with (first
      | (go_at_call 48; refine (HN.out _ H3.out).mono ?_; rintro e w4 ⟨rfl, h4, f4⟩; have H4 := Lib.hid h4; have F4 := Lib.hid ((Fr.of_below B3.out (Nat.le_of_lt hR)).trans f4); have K4 := Lib.hid (f4.2 _ _ K3.out (by omega)); clear h4 f4)
      | (go_at_call 57; refine (variable_any (From (w.heap.size + 1)) y _).mono ?_; rintro e w5 ⟨⟨p1, n1, p2, n2, p3, n3, rfl, hx5⟩, hb5⟩; have l4 := (Array.getElem?_eq_some_iff.1 K4.out).1; have X5 := Lib.hid hx5; have H5 := Lib.hid (H4.out.below hb5); have F5 := Lib.hid (F4.out.trans (Fr.of_below hb5 (Nat.le_of_lt H4.out.lt))); have k5 := (hb5.block w.heap.size l4).trans K4.out; have K5 := Lib.hid k5; obtain ⟨k0, k1, k2', k3', k4', k5', k6'⟩ := cells7 k5; have kf := fun i => Lib.frozen_of_heap k5 i; clear hx5 hb5 k5; unfold exV))
    exact bodyPost_ret (v := exV (varE y) (.slice p1 (varE y).kids.length n1) (.slice p2 (varE y).alts.length n2) (.slice p3 (varE y).binds.length n3)) (by simp [results, Tryz.results96, go_sem, exV, k0, k1, k2', k3', k4', k5', k6']) rfl
      ⟨TreeRet.of (X5.out.laid (Nat.lt_succ_self _) _ (Nat.le_succ _) _ _ _ _ _ _ _), H5.out.set7 hR K5.out (by decide), F5.out.set7 hR (Nat.le_refl _)⟩
  | false =>
    rw [hb] at HBv
    simp only [Bool.false_eq_true, if_false]
    have hne : R ≠ w.heap.size := by omega
    cases hi : isT c s [40] with
    | true =>
      rw [hi] at hT
      have ht : (x.text.toList == [40]) = true := by rw [Lib.toList_data]; exact hT.symm
      have HT := Lib.hid (h hb hi)
      clear h hb hi hT hlt
      simp only [if_true]
      obtain ⟨y, hy⟩ : ∃ y, within c E.zero (inBr c rec) s = y := ⟨_, rfl⟩
      rw [hy] at HT ⊢; clear hy
      obtain ⟨y, s2⟩ := y
      simp only at HT ⊢
      go_enter Tryz.func96, Tryz.ntmps96
      go_wp2_with (go_at_call 16; refine (rword_any c q R s _ (H.out.below (HB.out _))).mono ?_; rintro e w2 ⟨rfl, hb2⟩; rw [HX.out, wdV_eq]; have H2 := Lib.hid ((H.out.below (HB.out _)).below hb2); have B2 := Lib.hid ((HB.out _).trans (hb2.mono (by simp))); have k2 := (hb2.block w.heap.size (by simp)).trans (World.alloc_heap_new w _); have l2 : w.heap.size < w2.heap.size := (Array.getElem?_eq_some_iff.1 k2).1; have K2 := Lib.hid k2; clear hb2 k2)
      go_wp2_with (go_at_call 47; refine (HBv.out _ (H2.out.alloc _)).mono ?_; rintro e w3 ⟨rfl, hb3⟩; have H3 := Lib.hid ((H2.out.alloc (.cells #[.int .i64 x.kind, .int .i64 x.pos, .string x.text, .int .i64 x.num] 52)).below hb3); have B3 := Lib.hid ((B2.out.alloc (Nat.le_of_lt l2) (.cells #[.int .i64 x.kind, .int .i64 x.pos, .string x.text, .int .i64 x.num] 52)).trans (hb3.mono (by simp; omega))); have K3 := Lib.hid ((hb3.block w.heap.size (by simp; omega)).trans ((Below.heap_alloc w2 _ _ l2).trans K2.out)); obtain ⟨j0, j1, j2, j3⟩ := cells4 ((hb3.block w2.heap.size (by simp)).trans (World.alloc_heap_new w2 _)); obtain ⟨k0, k1, k2', k3', k4', k5', k6'⟩ := cells7 K3.out; have kf := fun i => Lib.frozen_of_heap K3.out i; obtain ⟨a, cap, fv, ⟨_, c1, _, _, _⟩, hf, _⟩ := H3.out.open; have f1 := hf 1; clear hb3 hf)
      go_wp2_with (go_at_call 17; refine (HT.out _ H3.out).mono ?_; rintro e w4 ⟨⟨p1, n1, p2, n2, p3, n3, rfl, hx4⟩, h4, f4⟩; have X4 := Lib.hid hx4; have H4 := Lib.hid h4; have F4 := Lib.hid ((Fr.of_below B3.out (Nat.le_of_lt hR)).trans f4); have kk := f4.2 _ _ K3.out (by omega); have l3 : w.heap.size < w3.heap.size := (Array.getElem?_eq_some_iff.1 K3.out).1; have K4 := Lib.hid kk; clear k0 k1 k2' k3' k4' k5' k6' kf j0 j1 j2 j3 c1 f1; obtain ⟨k0, k1, k2', k3', k4', k5', k6'⟩ := cells7 kk; have kf := fun i => Lib.frozen_of_heap kk i; clear hx4 h4 f4 kk; unfold exV)
      exact bodyPost_ret (v := exV y (.slice p1 y.kids.length n1) (.slice p2 y.alts.length n2) (.slice p3 y.binds.length n3)) (by simp [results, Tryz.results96, go_sem, exV, k0, k1, k2', k3', k4', k5', k6']) rfl
        ⟨TreeRet.of (X4.out.laid l3 _ (Nat.le_of_lt l3) _ _ _ _ _ _ _), H4.out.set7 hR K4.out (by decide), F4.out.set7 hR (Nat.le_refl _)⟩
    | false =>
      rw [hi] at hT
      have ht : (x.text.toList == [40]) = false := by rw [Lib.toList_data]; exact hT.symm
      clear h hb hi hT
      simp only [Bool.false_eq_true, if_false]
      by_cases h2 : x.kind = 2
      · rw [if_pos h2]
        have hl := hlt (by omega)
        have e2 : (x.kind == 2) = true := by simpa using h2
        clear hlt h2
        go_enter Tryz.func96, Tryz.ntmps96
        go_wp2_with (go_at_call 16; refine (rword_any c q R s _ (H.out.below (HB.out _))).mono ?_; rintro e w2 ⟨rfl, hb2⟩; rw [HX.out, wdV_eq]; have H2 := Lib.hid ((H.out.below (HB.out _)).below hb2); have B2 := Lib.hid ((HB.out _).trans (hb2.mono (by simp))); have k2 := (hb2.block w.heap.size (by simp)).trans (World.alloc_heap_new w _); have l2 : w.heap.size < w2.heap.size := (Array.getElem?_eq_some_iff.1 k2).1; have K2 := Lib.hid k2; clear hb2 k2)
        go_wp2_with (go_at_call 47; refine (HBv.out _ (H2.out.alloc _)).mono ?_; rintro e w3 ⟨rfl, hb3⟩; have H3 := Lib.hid ((H2.out.alloc (.cells #[.int .i64 x.kind, .int .i64 x.pos, .string x.text, .int .i64 x.num] 52)).below hb3); have B3 := Lib.hid ((B2.out.alloc (Nat.le_of_lt l2) (.cells #[.int .i64 x.kind, .int .i64 x.pos, .string x.text, .int .i64 x.num] 52)).trans (hb3.mono (by simp; omega))); have K3 := Lib.hid ((hb3.block w.heap.size (by simp; omega)).trans ((Below.heap_alloc w2 _ _ l2).trans K2.out)); obtain ⟨j0, j1, j2, j3⟩ := cells4 ((hb3.block w2.heap.size (by simp)).trans (World.alloc_heap_new w2 _)); obtain ⟨k0, k1, k2', k3', k4', k5', k6'⟩ := cells7 K3.out; have kf := fun i => Lib.frozen_of_heap K3.out i; obtain ⟨a, cap, fv, ⟨_, c1, _, _, _⟩, hf, _⟩ := H3.out.open; have f1 := hf 1; clear hb3 hf)
        exact bodyPost_ret (v := exV (.mk 2 x.pos x.text 0 [] [] []) (.slice none 0 0) (.slice none 0 0) (.slice none 0 0)) (by simp [results, Tryz.results96, go_sem, exV, E.kind, E.pos, E.name, E.num, k0, k1, k2', k3', k4', k5', k6']) rfl
          ⟨TreeRet.of (ExIn.leaf _ _ _ _ _ _), (H3.out.setNext (s.next + 1) hl (by go_num)).set7 hR ((Below.heap_setCell _ ⟨R, 1, none⟩ _ w.heap.size (by show w.heap.size ≠ R; omega)).trans K3.out) (by decide), ((Fr.of_below B3.out (Nat.le_of_lt hR)).trans (Fr.set _ 1 _)).set7 hR (Nat.le_refl _)⟩

      · rw [if_neg h2]
        have e2 : (x.kind == 2) = false := by simpa using h2
        clear h2
        by_cases h3 : x.kind = 3
        · rw [if_pos h3]
          have hl := hlt (by omega)
          have e3 : (x.kind == 3) = true := by simpa using h3
          clear hlt h3
          go_enter Tryz.func96, Tryz.ntmps96
          go_wp2_with (go_at_call 16; refine (rword_any c q R s _ (H.out.below (HB.out _))).mono ?_; rintro e w2 ⟨rfl, hb2⟩; rw [HX.out, wdV_eq]; have H2 := Lib.hid ((H.out.below (HB.out _)).below hb2); have B2 := Lib.hid ((HB.out _).trans (hb2.mono (by simp))); have k2 := (hb2.block w.heap.size (by simp)).trans (World.alloc_heap_new w _); have l2 : w.heap.size < w2.heap.size := (Array.getElem?_eq_some_iff.1 k2).1; have K2 := Lib.hid k2; clear hb2 k2)
          go_wp2_with (go_at_call 47; refine (HBv.out _ (H2.out.alloc _)).mono ?_; rintro e w3 ⟨rfl, hb3⟩; have H3 := Lib.hid ((H2.out.alloc (.cells #[.int .i64 x.kind, .int .i64 x.pos, .string x.text, .int .i64 x.num] 52)).below hb3); have B3 := Lib.hid ((B2.out.alloc (Nat.le_of_lt l2) (.cells #[.int .i64 x.kind, .int .i64 x.pos, .string x.text, .int .i64 x.num] 52)).trans (hb3.mono (by simp; omega))); have K3 := Lib.hid ((hb3.block w.heap.size (by simp; omega)).trans ((Below.heap_alloc w2 _ _ l2).trans K2.out)); obtain ⟨j0, j1, j2, j3⟩ := cells4 ((hb3.block w2.heap.size (by simp)).trans (World.alloc_heap_new w2 _)); obtain ⟨k0, k1, k2', k3', k4', k5', k6'⟩ := cells7 K3.out; have kf := fun i => Lib.frozen_of_heap K3.out i; obtain ⟨a, cap, fv, ⟨_, c1, _, _, _⟩, hf, _⟩ := H3.out.open; have f1 := hf 1; clear hb3 hf)
          exact bodyPost_ret (v := exV (.mk 3 x.pos ⟨#[]⟩ x.num [] [] []) (.slice none 0 0) (.slice none 0 0) (.slice none 0 0)) (by simp [results, Tryz.results96, go_sem, exV, E.kind, E.pos, E.name, E.num, k0, k1, k2', k3', k4', k5', k6']) rfl
            ⟨TreeRet.of (ExIn.leaf _ _ _ _ _ _), (H3.out.setNext (s.next + 1) hl (by go_num)).set7 hR ((Below.heap_setCell _ ⟨R, 1, none⟩ _ w.heap.size (by show w.heap.size ≠ R; omega)).trans K3.out) (by decide), ((Fr.of_below B3.out (Nat.le_of_lt hR)).trans (Fr.set _ 1 _)).set7 hR (Nat.le_refl _)⟩

        · rw [if_neg h3]
          have e3 : (x.kind == 3) = false := by simpa using h3
          clear h3
          by_cases h4 : x.kind = 4
          · rw [if_pos h4]
            have hl := hlt (by omega)
            have e4 : (x.kind == 4) = true := by simpa using h4
            clear hlt h4
            go_enter Tryz.func96, Tryz.ntmps96
            go_wp2_with (go_at_call 16; refine (rword_any c q R s _ (H.out.below (HB.out _))).mono ?_; rintro e w2 ⟨rfl, hb2⟩; rw [HX.out, wdV_eq]; have H2 := Lib.hid ((H.out.below (HB.out _)).below hb2); have B2 := Lib.hid ((HB.out _).trans (hb2.mono (by simp))); have k2 := (hb2.block w.heap.size (by simp)).trans (World.alloc_heap_new w _); have l2 : w.heap.size < w2.heap.size := (Array.getElem?_eq_some_iff.1 k2).1; have K2 := Lib.hid k2; clear hb2 k2)
            go_wp2_with (go_at_call 47; refine (HBv.out _ (H2.out.alloc _)).mono ?_; rintro e w3 ⟨rfl, hb3⟩; have H3 := Lib.hid ((H2.out.alloc (.cells #[.int .i64 x.kind, .int .i64 x.pos, .string x.text, .int .i64 x.num] 52)).below hb3); have B3 := Lib.hid ((B2.out.alloc (Nat.le_of_lt l2) (.cells #[.int .i64 x.kind, .int .i64 x.pos, .string x.text, .int .i64 x.num] 52)).trans (hb3.mono (by simp; omega))); have K3 := Lib.hid ((hb3.block w.heap.size (by simp; omega)).trans ((Below.heap_alloc w2 _ _ l2).trans K2.out)); obtain ⟨j0, j1, j2, j3⟩ := cells4 ((hb3.block w2.heap.size (by simp)).trans (World.alloc_heap_new w2 _)); obtain ⟨k0, k1, k2', k3', k4', k5', k6'⟩ := cells7 K3.out; have kf := fun i => Lib.frozen_of_heap K3.out i; obtain ⟨a, cap, fv, ⟨_, c1, _, _, _⟩, hf, _⟩ := H3.out.open; have f1 := hf 1; clear hb3 hf)
            exact bodyPost_ret (v := exV (.mk 4 x.pos ⟨#[]⟩ x.num [] [] []) (.slice none 0 0) (.slice none 0 0) (.slice none 0 0)) (by simp [results, Tryz.results96, go_sem, exV, E.kind, E.pos, E.name, E.num, k0, k1, k2', k3', k4', k5', k6']) rfl
              ⟨TreeRet.of (ExIn.leaf _ _ _ _ _ _), (H3.out.setNext (s.next + 1) hl (by go_num)).set7 hR ((Below.heap_setCell _ ⟨R, 1, none⟩ _ w.heap.size (by show w.heap.size ≠ R; omega)).trans K3.out) (by decide), ((Fr.of_below B3.out (Nat.le_of_lt hR)).trans (Fr.set _ 1 _)).set7 hR (Nat.le_refl _)⟩

          · rw [if_neg h4]
            have e4 : (x.kind == 4) = false := by simpa using h4
            clear hlt h4
            go_enter Tryz.func96, Tryz.ntmps96
            go_wp2_with (go_at_call 16; refine (rword_any c q R s _ (H.out.below (HB.out _))).mono ?_; rintro e w2 ⟨rfl, hb2⟩; rw [HX.out, wdV_eq]; have H2 := Lib.hid ((H.out.below (HB.out _)).below hb2); have B2 := Lib.hid ((HB.out _).trans (hb2.mono (by simp))); have k2 := (hb2.block w.heap.size (by simp)).trans (World.alloc_heap_new w _); have l2 : w.heap.size < w2.heap.size := (Array.getElem?_eq_some_iff.1 k2).1; have K2 := Lib.hid k2; clear hb2 k2)
            go_wp2_with (go_at_call 47; refine (HBv.out _ (H2.out.alloc _)).mono ?_; rintro e w3 ⟨rfl, hb3⟩; have H3 := Lib.hid ((H2.out.alloc (.cells #[.int .i64 x.kind, .int .i64 x.pos, .string x.text, .int .i64 x.num] 52)).below hb3); have B3 := Lib.hid ((B2.out.alloc (Nat.le_of_lt l2) (.cells #[.int .i64 x.kind, .int .i64 x.pos, .string x.text, .int .i64 x.num] 52)).trans (hb3.mono (by simp; omega))); have K3 := Lib.hid ((hb3.block w.heap.size (by simp; omega)).trans ((Below.heap_alloc w2 _ _ l2).trans K2.out)); obtain ⟨j0, j1, j2, j3⟩ := cells4 ((hb3.block w2.heap.size (by simp)).trans (World.alloc_heap_new w2 _)); obtain ⟨k0, k1, k2', k3', k4', k5', k6'⟩ := cells7 K3.out; have kf := fun i => Lib.frozen_of_heap K3.out i; obtain ⟨a, cap, fv, ⟨_, c1, _, _, _⟩, hf, _⟩ := H3.out.open; have f1 := hf 1; clear hb3 hf)
            go_wp2_with (go_at_call 15; refine (wrong_any c q R s _ H3.out).mono ?_; rintro e w4 ⟨rfl, h4, f4⟩; have H4 := Lib.hid h4; have F4 := Lib.hid ((Fr.of_below B3.out (Nat.le_of_lt hR)).trans f4); have kk := f4.2 _ _ K3.out (by omega); have K4 := Lib.hid kk; clear k0 k1 k2' k3' k4' k5' k6' kf j0 j1 j2 j3 c1 f1; obtain ⟨k0, k1, k2', k3', k4', k5', k6'⟩ := cells7 kk; have kf := fun i => Lib.frozen_of_heap kk i; clear h4 f4 kk)
            exact bodyPost_ret (v := exV E.zero (.slice none 0 0) (.slice none 0 0) (.slice none 0 0)) (by simp [results, Tryz.results96, go_sem, exV, E.zero, E.kind, E.pos, E.name, E.num, k0, k1, k2', k3', k4', k5', k6']) rfl
              ⟨TreeRet.of (ExIn.leaf _ _ _ _ _ _), H4.out.set7 hR K4.out (by decide), F4.out.set7 hR (Nat.le_refl _)⟩
end Go.Proofs.YtdooeghicdaakaaGreatDoor
