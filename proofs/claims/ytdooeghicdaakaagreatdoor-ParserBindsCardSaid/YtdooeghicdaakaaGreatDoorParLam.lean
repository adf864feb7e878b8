/- A lambda. -/
import Derived.Test.YtdooeghicdaakaaGreatDoorParLams
namespace Go.Proofs.YtdooeghicdaakaaGreatDoor
open Go.RowKit
attribute [local go_sem] Oper.semAt_some field_tok0 field_tok1 field_tok2

theorem varsP_len (c : Cx) (n : Nat) (l : List ByteArray) (s : St) : (varsP c n l s).1.length ≤ n + l.length := by
  induction n generalizing l s with
  | zero => simp [varsP]
  | succ n ih =>
    unfold varsP; split
    · have := ih (l ++ [(nameP c s).1.text]) (nameP c s).2
      simp at this; omega
    · simp
theorem TextsAt.fr {w w' : World} {v : Value} {l : List ByteArray} {c : Cx} {q : Er} {R : Nat} {s : St} (h : TextsAt w v l) (hrd : Rd c q R s w) (f : Fr R w w') : TextsAt w' v l := by
  obtain ⟨⟨sv, fv, h1, _⟩, _⟩ := hrd
  exact h.keep (fun k cs fz hk => f.2 k _ hk (blk_ne h1 hk (by decide)))
def lamS (c : Cx) (s : St) : St := needS c (if (variablesP c (needS c s [92])).1 = [] then wrongS c (variablesP c (needS c s [92])).2 else (variablesP c (needS c s [92])).2) [45, 62]

set_option maxRecDepth 100000 in
set_option maxHeartbeats 8000000 in
theorem lam_any (c : Cx) (q : Er) (R : Nat) (rec : St → E × St) (s : St) (h : TreeOK c q R 8 (lamS c s) (rec (lamS c s))) : TreeOK c q R 18 s (lamF c rec s) := by
  intro w hrd
  have hR := hrd.lt
  have hn3 := hrd.2.2.2.2.2
  have H := Lib.hid hrd; clear hrd
  have HB := Lib.hid (fun o : Obj => (Below.refl w.heap.size w).alloc (Nat.le_refl _) o)
  have HN1 := Lib.hid (fun W (h : Rd c q R s W) => need_any c q R s ⟨#[92]⟩ W h)
  rw [show (⟨#[92]⟩ : ByteArray).data.toList = [92] from rfl] at HN1
  have hlF : lamF c rec s = (lambdasE (word c s).pos (variablesP c (needS c s [92])).1 (rec (lamS c s)).1, (rec (lamS c s)).2) := rfl
  rw [hlF]; clear hlF
  unfold lamS at h ⊢
  obtain ⟨x, hx⟩ : ∃ x, word c s = x := ⟨_, rfl⟩
  have HX := Lib.hid hx
  rw [hx]; clear hx
  obtain ⟨s1, hs1⟩ : ∃ s1, needS c s [92] = s1 := ⟨_, rfl⟩
  rw [hs1] at HN1 h ⊢; clear hs1
  have HV := Lib.hid (fun W (h : Rd c q R s1 W) => variables_any c q R s1 W h)
  have hlen : (variablesP c s1).1.length ≤ 20001 := by
    have := varsP_len c (left c s1 + 1) [] s1
    have h2 : left c s1 ≤ 20000 := by unfold left; omega
    unfold variablesP; simp at this; omega
  obtain ⟨r, hr⟩ : ∃ r, variablesP c s1 = r := ⟨_, rfl⟩
  rw [hr] at HV hlen h ⊢; clear hr
  obtain ⟨vs, s2⟩ := r
  simp only at HV hlen h ⊢
  have HL := Lib.hid hlen; clear hlen
  obtain ⟨s3, hs3⟩ : ∃ s3, (if vs = [] then wrongS c s2 else s2) = s3 := ⟨_, rfl⟩
  rw [hs3] at h ⊢
  have HN2 := Lib.hid (fun W (h : Rd c q R s3 W) => need_any c q R s3 ⟨#[45, 62]⟩ W h)
  rw [show (⟨#[45, 62]⟩ : ByteArray).data.toList = [45, 62] from rfl] at HN2
  obtain ⟨s4, hs4⟩ : ∃ s4, needS c s3 [45, 62] = s4 := ⟨_, rfl⟩
  rw [hs4] at h HN2 ⊢; clear hs4
  obtain ⟨r, hr⟩ : ∃ r, rec s4 = r := ⟨_, rfl⟩
  rw [hr] at h ⊢; clear hr
  obtain ⟨y, s5⟩ := r
  have HT := Lib.hid h; clear h
  simp only at HT ⊢
  have HWr := Lib.hid (fun W (h : Rd c q R s2 W) => wrong_any c q R s2 W h)
  by_cases hv0 : vs = []
  all_goals
    first | rw [if_pos hv0] at hs3 | rw [if_neg hv0] at hs3
    have hz : ((vs.length : Int) == 0) = decide (vs = []) := by rw [Bool.eq_iff_iff]; simp
    first | rw [decide_eq_true hv0] at hz | rw [decide_eq_false hv0] at hz
    subst hs3
    clear hv0
    go_enter Tryz.func18, Tryz.ntmps18
    go_wp2_with (first
      | (go_at_call 16; refine (rword_any c q R s _ (H.out.below (HB.out _))).mono ?_; rintro e w2 ⟨rfl, hb2⟩; rw [HX.out, wdV_eq]; have H2 := Lib.hid ((H.out.below (HB.out _)).below hb2); have F2 := Lib.hid (Fr.of_below ((HB.out _).trans (hb2.mono (by simp))) (Nat.le_of_lt hR)); have K2 := Lib.hid ((hb2.block w.heap.size (by simp)).trans (World.alloc_heap_new w _)); clear hb2)
      | (go_at_call 29; (with_reducible refine (HN1.out _ H2.out).mono ?_); rintro e w3 ⟨rfl, h3, f3⟩; have H3 := Lib.hid h3; have F3 := Lib.hid (F2.out.trans f3); have K3 := Lib.hid (f3.2 _ _ K2.out (by omega)); clear h3 f3)
      | (go_at_call 30; refine (HV.out _ H3.out).mono ?_; rintro e w4 ⟨⟨v, rfl, ht⟩, h4, f4⟩; have H4 := Lib.hid h4; have F4 := Lib.hid (F3.out.trans f4); have K4 := Lib.hid (f4.2 _ _ K3.out (by omega)); have T4 := Lib.hid ht; obtain ⟨va, vc, rfl, _⟩ := ht; clear h4 f4)
      | (go_at_call 15; refine (HWr.out _ H4.out).mono ?_; rintro e w5 ⟨rfl, h5, f5⟩; have T4 := Lib.hid (T4.out.fr H4.out f5); have H4 := Lib.hid h5; have F4 := Lib.hid (F4.out.trans f5); have K4 := Lib.hid (f5.2 _ _ K4.out (by omega)); clear h5 f5)
      | (go_at_call 29; (with_reducible refine (HN2.out _ H4.out).mono ?_); rintro e w6 ⟨rfl, h6, f6⟩; have H6 := Lib.hid h6; have F6 := Lib.hid (F4.out.trans f6); have K6 := Lib.hid (f6.2 _ _ K4.out (by omega)); have T6 := Lib.hid (T4.out.fr H4.out f6); clear h6 f6)
      | (go_at_call 8; refine (HT.out _ H6.out).mono ?_; rintro e w7 ⟨⟨p1, n1, p2, n2, p3, n3, rfl, hx7⟩, h7, f7⟩; have H7 := Lib.hid h7; have F7 := Lib.hid (F6.out.trans f7); have K7 := Lib.hid (f7.2 _ _ K6.out (by omega)); have T7 := Lib.hid (T6.out.fr H6.out f7); have l7 := (Array.getElem?_eq_some_iff.1 K6.out).1; have X7 := Lib.hid hx7; clear h7 f7 hx7)
      | (go_at_call 31; refine (lambdas_any (From (w.heap.size + 1)) x.pos vs HL.out _ y _ _ _ _ (fun k hk => by have : _ ≤ k := hk; have := (Array.getElem?_eq_some_iff.1 K7.out).1; show w.heap.size + 1 ≤ k; omega) T7.out (X7.out.mono (fun k hk => Nat.le_trans l7 hk))).mono ?_; rintro e w8 ⟨⟨q1, m1, q2, m2, q3, m3, rfl, hx8⟩, hb8⟩; have H8 := Lib.hid (H7.out.below hb8); have F8 := Lib.hid (F7.out.trans (Fr.of_below hb8 (Nat.le_of_lt H7.out.lt))); have kk := (hb8.block _ (Array.getElem?_eq_some_iff.1 K7.out).1).trans K7.out; obtain ⟨k0, k1, k2', k3', k4', k5', k6'⟩ := cells7 kk; have kf := fun i => Lib.frozen_of_heap kk i; have K8 := Lib.hid kk; have X8 := Lib.hid hx8; clear hx8 hb8 kk; unfold exV))
    exact bodyPost_ret (v := exV (lambdasE x.pos vs y) (.slice q1 (lambdasE x.pos vs y).kids.length m1) (.slice q2 (lambdasE x.pos vs y).alts.length m2) (.slice q3 (lambdasE x.pos vs y).binds.length m3)) (by simp [results, Tryz.results18, go_sem, exV, k0, k1, k2', k3', k4', k5', k6']) rfl
      ⟨TreeRet.of (X8.out.laid (Nat.lt_succ_self _) _ (Nat.le_succ _) _ _ _ _ _ _ _), H8.out.set7 hR K8.out (by decide), F8.out.set7 hR (Nat.le_refl _)⟩
end Go.Proofs.YtdooeghicdaakaaGreatDoor
