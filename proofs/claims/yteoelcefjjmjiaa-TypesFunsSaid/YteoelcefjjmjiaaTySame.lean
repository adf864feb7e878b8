/- Whether two types are the same, part by part. -/
import Derived.Test.YteoelcefjjmjiaaTyMem
namespace Go.Proofs.Yteoelcefjjmjiaa
open Go.RowKit
attribute [local go_sem] Oper.semAt_some

open Classical in
noncomputable def eqB {α : Type} (a b : α) : Bool := decide (a = b)
theorem eqB_true {α : Type} {a b : α} (h : a = b) : eqB a b = true := by simp [eqB, h]
theorem eqB_false {α : Type} {a b : α} (h : ¬ a = b) : eqB a b = false := by simp [eqB, h]
theorem eqB_iff {α : Type} {a b : α} : eqB a b = true ↔ a = b := by simp [eqB]
theorem T.ext_iff {t u : T} : t = u ↔ t.kind = u.kind ∧ t.name = u.name ∧ t.kids = u.kids := by
  cases t <;> cases u <;> simp [T.kind, T.name, T.kids]
theorem bytes_beq (a b : ByteArray) : (a.toList == b.toList) = eqB a b := by
  by_cases h : a = b
  · rw [eqB_true h, h]; simp
  · rw [eqB_false h]
    simp only [beq_eq_false_iff_ne, ne_eq]
    intro e
    apply h
    rw [Lib.toList_data, Lib.toList_data] at e
    cases a; cases b; simp_all

def SameOK (t : T) : Prop := ∀ (t' : T) (a b : Option Addr) (c d : Nat) (w : World), TysAt w (.slice a t.kids.length c) t.kids → TysAt w (.slice b t'.kids.length d) t'.kids →
    Calls Try.prog 22 #[tyV t (.slice a t.kids.length c), tyV t' (.slice b t'.kids.length d)] w fun e w' => e = .returned (.bool (eqB t t')) ∧ Below w.heap.size w w'

set_option maxHeartbeats 600000 in
theorem sameTypes_of (l l' : List T) (H : ∀ t ∈ l, SameOK t) (a b : Option Addr) (c d : Nat) (w : World) (h : TysAt w (.slice a l.length c) l) (h' : TysAt w (.slice b l'.length d) l') (hn : l.length < 1152921504606846976) :
    Calls Try.prog 17 #[.slice a l.length c, .slice b l'.length d] w fun e w' => e = .returned (.bool (eqB l l')) ∧ Below w.heap.size w w' := by
  by_cases hl : l.length = l'.length
  · by_cases h0 : l = []
    · subst h0
      obtain rfl : l' = [] := List.length_eq_zero_iff.1 hl.symm
      rw [eqB_true rfl]
      clear h h' H
      go_enter Try.func17, Try.ntmps17
      go_wp2
      go_loopw [5] (fun vi wr => vi = .int .i64 0 ∧ Hid (Below w.heap.size w wr)) (fun _ _ => 0)
      case atStart => exact ⟨rfl, Lib.hid (Below.refl _ _)⟩
      case round =>
        obtain ⟨rfl, hB⟩ := hrel
        go_wp2
        go_ret
        exact ⟨rfl, hB.out⟩
    · have h0' : l' ≠ [] := by intro e; rw [e] at hl; exact h0 (List.length_eq_zero_iff.1 hl)
      obtain ⟨g1, c1, e1, hg1, hc1, r1⟩ := h.row h0
      obtain ⟨g2, c2, e2, hg2, hc2, r2⟩ := h'.row h0'
      cases e1; cases e2
      have HR1 := Lib.hid r1; clear r1
      have HR2 := Lib.hid r2; clear r2
      have HS := Lib.hid H; clear H
      obtain ⟨res, hres⟩ : ∃ r, eqB l l' = r := ⟨_, rfl⟩
      have HRes := Lib.hid hres
      rw [hres]; clear hres h h'
      rw [← hl] at hc2 ⊢
      have HL := Lib.hid hl; clear hl
      have hm : ((l.length : Int) != (l.length : Int)) = false := by simp
      go_enter Try.func17, Try.ntmps17
      go_wp2
      go_loopw [5] (fun vi wr => ∃ i : Nat, i ≤ l.length ∧ vi = .int .i64 i ∧ Hid (Below w.heap.size w wr) ∧ Hid (∀ j (h1 : j < l.length) (h2 : j < l'.length), j < i → l[j] = l'[j])) (fun vi _ => l.length - (intOf vi).toNat)
      case atStart => exact ⟨0, Nat.zero_le _, rfl, Lib.hid (Below.refl _ _), Lib.hid (fun j _ _ h => absurd h (by omega))⟩
      case round =>
        obtain ⟨i, hi, rfl, hB, hS⟩ := hrel
        by_cases hlt : i < l.length
        · have hlt' : i < l'.length := HL.out ▸ hlt
          obtain ⟨pa, ca, x0, x1, x2, xk⟩ := HR1.out i hlt
          obtain ⟨pb, cb, y0, y1, y2, yk⟩ := HR2.out i hlt'
          have f1 := fun o => hB.out.cell (p := ⟨g1, o, none⟩) hg1
          have f2 := fun o => hB.out.cell (p := ⟨g2, o, none⟩) hg2
          rw [← f1] at x0 x1 x2; rw [← f2] at y0 y1 y2
          have hcall := HS.out l[i] (List.getElem_mem hlt) l'[i] pa pb ca cb
          have XK := Lib.hid xk; have YK := Lib.hid yk
          clear xk yk f1 f2
          have HE := Lib.hid (show l[i] = l[i] ∧ l'[i] = l'[i] from ⟨rfl, rfl⟩)
          obtain ⟨t, ht⟩ : ∃ t, l[i] = t := ⟨_, rfl⟩
          obtain ⟨u, hu⟩ : ∃ u, l'[i] = u := ⟨_, rfl⟩
          have HT := Lib.hid ht; have HU := Lib.hid hu
          rw [ht] at x0 x1 x2 hcall XK
          rw [hu] at y0 y1 y2 hcall YK
          simp only [tyV] at hcall
          clear ht hu HE
          have HC := Lib.hid (fun W (k : KeepT w W) => hcall W (XK.out.keep k) (YK.out.keep k)); clear hcall
          have HK : Hid (KeepT w wr.drew) := Lib.hid (fun k cs fz h => KeepT.of_below hB.out k cs fz h)
          go_wp2
          by_cases hq : t = u
          · rw [eqB_true hq] at HC
            have HQ := Lib.hid hq; clear hq
            go_region_with (first
              | (go_at_call 22; refine (HC.out _ ?kk).mono ?_; (case kk => exact HK.out); rintro e w2 ⟨rfl, hb2⟩; have HB2 := Lib.hid hb2; clear hb2))
            all_goals go_wp2
            all_goals
              go_roundw
              case rel => exact ⟨i + 1, by omega, by go_num, Lib.hid (hB.out.drew.trans (HB2.out.mono hB.out.size)), Lib.hid (fun j h1 h2 hj => by
                by_cases hji : j = i
                · subst hji; rw [HT.out, HU.out]; exact HQ.out
                · exact hS.out j h1 h2 (by omega))⟩
              case measure => simp [intOf]; omega
          · rw [eqB_false hq] at HC
            have hres : res = false := by
              rw [← HRes.out]
              refine eqB_false fun e => hq ?_
              rw [← HT.out, ← HU.out]
              exact List.getElem_of_eq e hlt
            clear HT HU HRes hq
            subst hres
            go_region_with (first
              | (go_at_call 22; refine (HC.out _ ?kk).mono ?_; (case kk => exact HK.out); rintro e w2 ⟨rfl, hb2⟩; have HB2 := Lib.hid hb2; clear hb2))
            all_goals go_wp2
            all_goals go_ret
            all_goals exact ⟨rfl, hB.out.drew.trans (HB2.out.mono hB.out.size)⟩
        · obtain rfl : i = l.length := by omega
          have hres : res = true := by
            rw [← HRes.out]
            exact eqB_true (List.ext_getElem HL.out (fun j h1 h2 => hS.out j h1 h2 h1))
          clear HRes
          subst hres
          go_wp2
          go_ret
          exact ⟨rfl, hB.out⟩
  · have hm : ((l.length : Int) != (l'.length : Int)) = true := by simp; omega
    rw [eqB_false (fun e => hl (by rw [e]))]
    clear h h' H
    go_enter Try.func17, Try.ntmps17
    go_wp2
    go_ret
    exact ⟨rfl, Below.refl _ _⟩

set_option maxHeartbeats 1000000 in
theorem sameType_step (t : T) (H : ∀ k ∈ t.kids, SameOK k) (hn : t.kids.length < 1152921504606846976) : SameOK t := by
  intro t' a b c d w h h'
  have HC := Lib.hid (fun (W : World) (k : KeepT w W) => sameTypes_of t.kids t'.kids H a b c d W (h.keep k) (h'.keep k) hn)
  have e0 : (t.kind == t'.kind) = eqB t.kind t'.kind := by
    by_cases e : t.kind = t'.kind
    · rw [eqB_true e]; simpa using e
    · rw [eqB_false e]; simpa using e
  have e1 := bytes_beq t.name t'.name
  have HX := Lib.hid (@T.ext_iff t t')
  clear H hn h h'
  have hz : ∀ o1 o2 : Obj, KeepT w ((w.alloc o1).alloc o2) := fun o1 o2 => (keepT_alloc w o1).trans (keepT_alloc _ o2)
  have hb : ∀ o1 o2 : Obj, Below w.heap.size w ((w.alloc o1).alloc o2) := fun o1 o2 => ((Below.refl _ w).alloc (Nat.le_refl _) _).alloc (by simp) _
  have HZ := Lib.hid hz; have HB := Lib.hid hb
  clear hz hb
  obtain ⟨res, hres⟩ : ∃ r, eqB t t' = r := ⟨_, rfl⟩
  have HR := Lib.hid hres
  rw [hres]; clear hres
  simp only [tyV]
  by_cases hk : t.kind = t'.kind
  · rw [eqB_true hk] at e0
    have HK := Lib.hid hk; clear hk
    by_cases hm : t.name = t'.name
    · rw [eqB_true hm] at e1
      have HM := Lib.hid hm; clear hm
      go_enter Try.func22, Try.ntmps22
      go_wp2_with (go_at_call 17; refine (HC.out _ ?kk).mono ?_; (case kk => exact HZ.out _ _); rintro e w2 ⟨rfl, hb2⟩; have HB2 := Lib.hid hb2; clear hb2)
      go_ret
      refine ⟨?_, (HB.out _ _).trans (HB2.out.mono (by simp; omega))⟩
      rw [← HR.out]
      by_cases hq : t.kids = t'.kids
      · rw [eqB_true hq, eqB_true (HX.out.2 ⟨HK.out, HM.out, hq⟩)]
        rfl
      · rw [eqB_false hq, eqB_false (fun e => hq (HX.out.1 e).2.2)]
        rfl
    · rw [eqB_false hm] at e1
      have hr : res = false := by rw [← HR.out]; exact eqB_false (fun e => hm (HX.out.1 e).2.1)
      subst hr
      clear HR hm
      go_enter Try.func22, Try.ntmps22
      go_wp2_with (first | fail)
      go_ret
      exact ⟨rfl, HB.out _ _⟩
  · rw [eqB_false hk] at e0
    have hr : res = false := by rw [← HR.out]; exact eqB_false (fun e => hk (HX.out.1 e).1)
    subst hr
    clear HR hk
    go_enter Try.func22, Try.ntmps22
    go_wp2_with (first | fail)
    go_ret
    exact ⟨rfl, HB.out _ _⟩

/-- No list of parts is longer than any memory. -/
inductive Fits : T → Prop
  | mk (t : T) : t.kids.length < 1152921504606846976 → (∀ k, k ∈ t.kids → Fits k) → Fits t
theorem Fits.len {t : T} (h : Fits t) : t.kids.length < 1152921504606846976 := by cases h; assumption
theorem Fits.kid {t k : T} (h : Fits t) (hk : k ∈ t.kids) : Fits k := by cases h with | mk _ _ h => exact h k hk
theorem sameType_ok {t : T} (h : Fits t) : SameOK t := by
  induction h with
  | mk t h1 _ ih => exact sameType_step t ih h1
theorem sameType_any {t t' : T} {v v' : Value} {w : World} (hf : Fits t) (h : TysAt w v t.kids) (h' : TysAt w v' t'.kids) :
    Calls Try.prog 22 #[tyV t v, tyV t' v'] w fun e w' => e = .returned (.bool (eqB t t')) ∧ Below w.heap.size w w' := by
  obtain ⟨a, c, rfl⟩ := h.shape
  obtain ⟨b, d, rfl⟩ := h'.shape
  exact sameType_ok hf t' a b c d w h h'
end Go.Proofs.Yteoelcefjjmjiaa
