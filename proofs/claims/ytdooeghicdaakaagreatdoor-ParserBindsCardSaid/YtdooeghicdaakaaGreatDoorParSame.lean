/- printer.Same on trees without alternatives and definitions. -/
import Derived.Test.YtdooeghicdaakaaGreatDoorParTree
import Derived.OwnWalk
namespace Go.Proofs.YtdooeghicdaakaaGreatDoor
open Go.RowKit
attribute [local go_sem] Oper.semAt_some

mutual
def sameE : E → E → Bool
  | .mk k _ n m l _ _, .mk k' _ n' m' l' _ _ => (k == k') && (n.toList == n'.toList) && (m == m') && sameL l l'
def sameL : List E → List E → Bool
  | [], [] => true
  | x :: xs, y :: ys => sameE x y && sameL xs ys
  | _, _ => false
end
mutual
def simpleE : E → Bool
  | .mk _ _ _ _ l a b => a.isEmpty && b.isEmpty && (decide (l.length ≤ 1000) && simpleL l)
def simpleL : List E → Bool
  | [] => true
  | x :: xs => simpleE x && simpleL xs
end
theorem simpleL_mem {l : List E} (h : simpleL l = true) {x : E} (hx : x ∈ l) : simpleE x = true := by
  induction l with
  | nil => cases hx
  | cons y ys ih =>
    rw [simpleL, Bool.and_eq_true] at h
    rcases List.mem_cons.1 hx with rfl | hx
    · exact h.1
    · exact ih h.2 hx
theorem simpleE_parts {e : E} (h : simpleE e = true) : e.alts = [] ∧ e.binds = [] ∧ e.kids.length ≤ 1000 ∧ simpleL e.kids = true := by
  cases e with
  | mk k p n m l a b => simpa [simpleE, E.alts, E.binds, E.kids, and_assoc] using h
theorem sameE_eq (x y : E) : sameE x y = ((x.kind == y.kind) && (x.name.toList == y.name.toList) && (x.num == y.num) && sameL x.kids y.kids) := by
  cases x; cases y; rw [sameE]; rfl
theorem sameL_len {xs ys : List E} (h : xs.length ≠ ys.length) : sameL xs ys = false := by
  induction xs generalizing ys with
  | nil => cases ys with
    | nil => exact absurd rfl h
    | cons => rfl
  | cons x xs ih => cases ys with
    | nil => rfl
    | cons y ys => rw [sameL, ih (by simpa using h), Bool.and_false]
theorem sameL_true {xs ys : List E} (hl : xs.length = ys.length) (h : ∀ i (h1 : i < xs.length) (h2 : i < ys.length), sameE xs[i] ys[i] = true) : sameL xs ys = true := by
  induction xs generalizing ys with
  | nil => cases ys with
    | nil => rfl
    | cons => simp at hl
  | cons x xs ih => cases ys with
    | nil => simp at hl
    | cons y ys =>
      rw [sameL, show sameE x y = true from h 0 (by simp) (by simp), Bool.true_and]
      exact ih (by simpa using hl) (fun i h1 h2 => h (i + 1) (by simpa using h1) (by simpa using h2))
theorem sameL_false {xs ys : List E} (i : Nat) (h1 : i < xs.length) (h2 : i < ys.length) (h : sameE xs[i] ys[i] = false) : sameL xs ys = false := by
  induction xs generalizing ys i with
  | nil => simp at h1
  | cons x xs ih => cases ys with
    | nil => rfl
    | cons y ys =>
      rw [sameL]
      cases i with
      | zero => rw [show sameE x y = false from h, Bool.false_and]
      | succ i => rw [ih i (by simpa using h1) (by simpa using h2) h, Bool.and_false]
/-- The parts of a tree in memory. -/
theorem ExIn.kid {ok : Nat → Prop} {w : World} {e : E} {l a b : Value} (h : ExIn ok w e l a b) (h0 : e.kids ≠ []) : ∃ g cap, l = .slice (some ⟨g, 0, none⟩) e.kids.length cap ∧ g < w.heap.size ∧ e.kids.length ≤ cap ∧
    ∀ i (h : i < e.kids.length), ∃ p1 c1 p2 c2 p3 c3, (w.cell? ⟨g, i * 7, none⟩ = some (.int .i64 e.kids[i].kind) ∧ w.cell? ⟨g, i * 7 + 1, none⟩ = some (.int .i64 e.kids[i].pos) ∧ w.cell? ⟨g, i * 7 + 2, none⟩ = some (.string e.kids[i].name) ∧ w.cell? ⟨g, i * 7 + 3, none⟩ = some (.int .i64 e.kids[i].num) ∧
      w.cell? ⟨g, i * 7 + 4, none⟩ = some (.slice p1 e.kids[i].kids.length c1) ∧ w.cell? ⟨g, i * 7 + 5, none⟩ = some (.slice p2 e.kids[i].alts.length c2) ∧ w.cell? ⟨g, i * 7 + 6, none⟩ = some (.slice p3 e.kids[i].binds.length c3)) ∧ ExIn ok w e.kids[i] (.slice p1 e.kids[i].kids.length c1) (.slice p2 e.kids[i].alts.length c2) (.slice p3 e.kids[i].binds.length c3) := by
  cases h with
  | mk e l a b L1 L2 L3 V A1 A2 A3 S1 S2 S3 B1 B2 B3 k1 k2 k3 i4 i5 i6 i7 i8 =>
    obtain ⟨p, cap, rfl, k1⟩ := k1
    rcases k1 with k1 | ⟨g, rfl, hc, hg, cs, fz, hh, hP⟩
    · exact absurd (List.length_eq_zero_iff.1 k1) h0
    · refine ⟨g, cap, rfl, (Array.getElem?_eq_some_iff.1 hh).1, hc, fun i hi => ?_⟩
      obtain ⟨⟨f0, f1, f2, f3⟩, f4, f5, f6⟩ := hP i hi
      have hk := i4 i hi
      obtain ⟨⟨q1, m1, e1⟩, ⟨q2, m2, e2⟩, ⟨q3, m3, e3⟩⟩ := hk.shape
      rw [e1] at f4; rw [e2] at f5; rw [e3] at f6
      rw [e1, e2, e3] at hk
      refine ⟨q1, m1, q2, m2, q3, m3, ⟨?_, ?_, ?_, ?_, ?_, ?_, ?_⟩, hk⟩ <;> (simp only [World.cell?, hh]; first | simpa using f0 | simpa using f1 | simpa using f2 | simpa using f3 | simpa using f4 | simpa using f5 | simpa using f6)

def SameEOK (x : E) : Prop := ∀ (y : E) (ok ok' : Nat → Prop) (p1 p2 p3 q1 q2 q3 : Option Addr) (c1 c2 c3 d1 d2 d3 : Nat) (w : World), simpleE y = true → ExIn ok w x (.slice p1 x.kids.length c1) (.slice p2 x.alts.length c2) (.slice p3 x.binds.length c3) → ExIn ok' w y (.slice q1 y.kids.length d1) (.slice q2 y.alts.length d2) (.slice q3 y.binds.length d3) →
  Calls Tryz.prog 6 #[exV x (.slice p1 x.kids.length c1) (.slice p2 x.alts.length c2) (.slice p3 x.binds.length c3), exV y (.slice q1 y.kids.length d1) (.slice q2 y.alts.length d2) (.slice q3 y.binds.length d3)] w fun e w' => e = .returned (.bool (sameE x y)) ∧ Below w.heap.size w w'

set_option maxRecDepth 100000 in
set_option maxHeartbeats 1000000 in
theorem eqAlts0 (p q : Option Addr) (c d : Nat) (w : World) : Calls Tryz.prog 10 #[.slice p 0 c, .slice q 0 d, .func (.func 11) #[] #[]] w fun e w' => e = .returned (.bool true) ∧ Below w.heap.size w w' := by
  go_enter Tryz.func10, Tryz.ntmps10
  go_wp2
  go_loopw [17] (fun vi wr => vi = .int .i64 0 ∧ Hid (Below w.heap.size w wr)) (fun _ _ => 0)
  case atStart => exact ⟨rfl, Lib.hid (Below.refl _ _)⟩
  case round =>
    obtain ⟨rfl, hB⟩ := hrel
    go_wp2
    go_ret
    exact ⟨rfl, hB.out⟩
set_option maxRecDepth 100000 in
set_option maxHeartbeats 1000000 in
theorem eqBinds0 (p q : Option Addr) (c d : Nat) (w : World) : Calls Tryz.prog 24 #[.slice p 0 c, .slice q 0 d, .func (.func 25) #[] #[]] w fun e w' => e = .returned (.bool true) ∧ Below w.heap.size w w' := by
  go_enter Tryz.func24, Tryz.ntmps24
  go_wp2
  go_loopw [17] (fun vi wr => vi = .int .i64 0 ∧ Hid (Below w.heap.size w wr)) (fun _ _ => 0)
  case atStart => exact ⟨rfl, Lib.hid (Below.refl _ _)⟩
  case round =>
    obtain ⟨rfl, hB⟩ := hrel
    go_wp2
    go_ret
    exact ⟨rfl, hB.out⟩
set_option maxRecDepth 100000 in
set_option maxHeartbeats 1000000 in
theorem sameBinds0 (p q : Option Addr) (c d : Nat) (w : World) : Calls Tryz.prog 12 #[.slice p 0 c, .slice q 0 d] w fun e w' => e = .returned (.bool true) ∧ Below w.heap.size w w' := by
  go_enter Tryz.func12, Tryz.ntmps12
  go_wp2_with (go_at_call 24; refine (eqBinds0 _ _ _ _ _).mono ?_; rintro e w2 ⟨rfl, hb⟩; have HB := Lib.hid hb; clear hb)
  go_ret
  exact ⟨rfl, HB.out⟩

set_option maxRecDepth 100000 in
set_option maxHeartbeats 4000000 in
theorem eqL_of (x y : E) (hs : simpleE y = true) (H : ∀ k ∈ x.kids, SameEOK k) (ok ok' : Nat → Prop) (p q : Option Addr) (c d : Nat) (a b a' b' : Value) (w : World) (h : ExIn ok w x (.slice p x.kids.length c) a b) (h' : ExIn ok' w y (.slice q y.kids.length d) a' b') (hn : x.kids.length < 1152921504606846976) :
    Calls Tryz.prog 9 #[.slice p x.kids.length c, .slice q y.kids.length d, .func (.func 6) #[] #[]] w fun e w' => e = .returned (.bool (sameL x.kids y.kids)) ∧ Below w.heap.size w w' := by
  by_cases hl : x.kids.length = y.kids.length
  · by_cases h0 : x.kids = []
    · have h0' : y.kids = [] := List.length_eq_zero_iff.1 (by rw [← hl, h0]; rfl)
      rw [h0, h0', show sameL [] [] = true from rfl]
      clear h h' H
      go_enter Tryz.func9, Tryz.ntmps9
      go_wp2
      go_loopw [17] (fun vi wr => vi = .int .i64 0 ∧ Hid (Below w.heap.size w wr)) (fun _ _ => 0)
      case atStart => exact ⟨rfl, Lib.hid (Below.refl _ _)⟩
      case round =>
        obtain ⟨rfl, hB⟩ := hrel
        go_wp2
        go_ret
        exact ⟨rfl, hB.out⟩
    · have h0' : y.kids ≠ [] := by intro e; rw [e] at hl; exact h0 (List.length_eq_zero_iff.1 hl)
      obtain ⟨g1, k1, e1, hg1, hc1, r1⟩ := h.kid h0
      obtain ⟨g2, k2, e2, hg2, hc2, r2⟩ := h'.kid h0'
      cases e1; cases e2
      have hsm := (simpleE_parts hs).2.2.2
      clear h h' h0 h0' hs
      generalize x.kids = xs at r1 H hl hc1 hn ⊢
      generalize y.kids = ys at r2 hsm hl hc2 ⊢
      have HR1 := Lib.hid r1; have HR2 := Lib.hid r2
      have HS := Lib.hid H
      have HSm := Lib.hid hsm
      clear H r1 r2 hsm
      obtain ⟨res, hres⟩ : ∃ r, sameL xs ys = r := ⟨_, rfl⟩
      have HRes := Lib.hid hres
      rw [hres]; clear hres
      rw [← hl] at hc2 ⊢
      have HL := Lib.hid hl; clear hl
      have hm : ((xs.length : Int) != (xs.length : Int)) = false := by simp
      go_enter Tryz.func9, Tryz.ntmps9
      go_wp2
      go_loopw [17] (fun vi wr => ∃ i : Nat, i ≤ xs.length ∧ vi = .int .i64 i ∧ Hid (Below w.heap.size w wr) ∧ Hid (∀ j (h1 : j < xs.length) (h2 : j < ys.length), j < i → sameE xs[j] ys[j] = true)) (fun vi _ => xs.length - (intOf vi).toNat)
      case atStart => exact ⟨0, Nat.zero_le _, rfl, Lib.hid (Below.refl _ _), Lib.hid (fun j _ _ h => absurd h (by omega))⟩
      case round =>
        obtain ⟨i, hi, rfl, hB, hS⟩ := hrel
        by_cases hlt : i < xs.length
        · have hlt' : i < ys.length := HL.out ▸ hlt
          obtain ⟨pa1, ca1, pa2, ca2, pa3, ca3, ⟨x0, x1, x2, x3, x4, x5, x6⟩, xk⟩ := HR1.out i hlt
          obtain ⟨pb1, cb1, pb2, cb2, pb3, cb3, ⟨y0, y1, y2, y3, y4, y5, y6⟩, yk⟩ := HR2.out i hlt'
          have f1 := fun o => hB.out.cell (p := ⟨g1, o, none⟩) hg1
          have f2 := fun o => hB.out.cell (p := ⟨g2, o, none⟩) hg2
          rw [← f1] at x0 x1 x2 x3 x4 x5 x6; rw [← f2] at y0 y1 y2 y3 y4 y5 y6
          have hz1 : g1 < wr.heap.size := Nat.lt_of_lt_of_le hg1 hB.out.size
          have hz2 : g2 < wr.heap.size := Nat.lt_of_lt_of_le hg2 hB.out.size
          have hcall := HS.out xs[i] (List.getElem_mem hlt) ys[i] ok ok' pa1 pa2 pa3 pb1 pb2 pb3 ca1 ca2 ca3 cb1 cb2 cb3
          have hsy := simpleL_mem HSm.out (List.getElem_mem hlt')
          have XK := Lib.hid xk; have YK := Lib.hid yk
          clear xk yk f1 f2
          obtain ⟨t, ht⟩ : ∃ t, xs[i] = t := ⟨_, rfl⟩
          obtain ⟨u, hu⟩ : ∃ u, ys[i] = u := ⟨_, rfl⟩
          have HT := Lib.hid ht; have HU := Lib.hid hu
          rw [ht] at x0 x1 x2 x3 x4 x5 x6 hcall XK
          rw [hu] at y0 y1 y2 y3 y4 y5 y6 hcall YK hsy
          have HC := Lib.hid (fun W (k : Below w.heap.size w W) => hcall W hsy (XK.out.keep (keep_of_below k)) (YK.out.keep (keep_of_below k)))
          simp only [exV] at HC
          clear ht hu hcall hsy
          have HW2 := Lib.hid (fun o1 o2 : Obj => hB.out.trans ((((Below.refl wr.heap.size wr).alloc (Nat.le_refl _) o1).alloc (by simp) o2).mono hB.out.size))
          cases hq : sameE t u with
          | true =>
            rw [hq] at HC
            have HQ := Lib.hid hq; clear hq
            go_wp2_with (go_at_call 6; refine (HC.out _ (HW2.out _ _)).mono ?_; rintro e w2 ⟨rfl, hb2⟩; have HB2 := Lib.hid hb2; clear hb2)
            go_roundw
            case rel => exact ⟨i + 1, by omega, by go_num, Lib.hid ((HW2.out _ _).trans (HB2.out.mono (by have := hB.out.size; simp; omega))), Lib.hid (fun j h1 h2 hj => by
              by_cases hji : j = i
              · subst hji; rw [HT.out, HU.out]; exact HQ.out
              · exact hS.out j h1 h2 (by omega))⟩
            case measure => simp [intOf]; omega
          | false =>
            rw [hq] at HC
            have hr : res = false := by
              rw [← HRes.out]
              exact sameL_false i hlt hlt' (by rw [HT.out, HU.out]; exact hq)
            clear HT HU HRes hq
            subst hr
            go_wp2_with (go_at_call 6; refine (HC.out _ (HW2.out _ _)).mono ?_; rintro e w2 ⟨rfl, hb2⟩; have HB2 := Lib.hid hb2; clear hb2)
            go_ret
            exact ⟨rfl, (HW2.out _ _).trans (HB2.out.mono (by have := hB.out.size; simp; omega))⟩
        · obtain rfl : i = xs.length := by omega
          have hr : res = true := by
            rw [← HRes.out]
            exact sameL_true HL.out (fun j h1 h2 => hS.out j h1 h2 h1)
          clear HRes
          subst hr
          go_wp2
          go_ret
          exact ⟨rfl, hB.out⟩
  · have hm : ((x.kids.length : Int) != (y.kids.length : Int)) = true := by simp; omega
    rw [sameL_len hl]
    clear h h' H
    go_enter Tryz.func9, Tryz.ntmps9
    go_wp2
    go_ret
    exact ⟨rfl, Below.refl _ _⟩
end Go.Proofs.YtdooeghicdaakaaGreatDoor
