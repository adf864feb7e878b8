/- Predicates in memory; whether two, two rows of them are the same. -/
import Derived.Test.YtmbaolcdjgilpaaSbOthersA
namespace Go.Proofs.Ytmbaolcdjgilpaa
open Go.RowKit
attribute [local go_sem] Oper.semAt_some

abbrev Pr := ByteArray × T
def prV (p : Pr) (v : Value) : Value := .agg #[.string p.1, .int .i64 p.2.kind, .string p.2.name, v]
/-- v is a slice of the predicates l. -/
def PrsAt (w : World) (v : Value) (l : List Pr) : Prop :=
  (l = [] ∧ ∃ a c, v = .slice a 0 c) ∨ ∃ g cap cs fz, ∃ u : Nat → Value, v = .slice (some ⟨g, 0, none⟩) l.length cap ∧ w.heap[g]? = some (.cells cs 66 fz) ∧ l.length ≤ cap ∧
    ∀ i (h : i < l.length), (cs[i * 4]? = some (.string l[i].1) ∧ cs[i * 4 + 1]? = some (.int .i64 l[i].2.kind) ∧ cs[i * 4 + 2]? = some (.string l[i].2.name) ∧ cs[i * 4 + 3]? = some (u i)) ∧ TysAt w (u i) l[i].2.kids
def KeepP (w w' : World) : Prop := ∀ (k : Nat) (cs : Array Value) (fz : Nat × Nat), w.heap[k]? = some (.cells cs 66 fz) → w'.heap[k]? = some (.cells cs 66 fz)
theorem KeepP.trans {a b c : World} (h : KeepP a b) (k : KeepP b c) : KeepP a c := fun i cs fz hi => k i cs fz (h i cs fz hi)
theorem KeepP.of_below {w w' : World} (h : Below w.heap.size w w') : KeepP w w' := fun k _ _ hk => (h.block k (Array.getElem?_eq_some_iff.1 hk).1).trans hk
theorem keepP_alloc (w : World) (o : Obj) : KeepP w (w.alloc o) := .of_below ((Below.refl _ w).alloc (Nat.le_refl _) o)
theorem PrsAt.keep {w w' : World} (hk : KeepT w w') (hp : KeepP w w') {v : Value} {l : List Pr} (h : PrsAt w v l) : PrsAt w' v l := by
  rcases h with h | ⟨g, cap, cs, fz, u, rfl, h1, h2, h3⟩
  · exact .inl h
  · exact .inr ⟨g, cap, cs, fz, u, rfl, hp _ _ _ h1, h2, fun i hi => ⟨(h3 i hi).1, (h3 i hi).2.keep hk⟩⟩
theorem PrsAt.shape {w : World} {v : Value} {l : List Pr} (h : PrsAt w v l) : ∃ a c, v = .slice a l.length c := by
  rcases h with ⟨rfl, a, c, rfl⟩ | ⟨g, cap, cs, fz, u, rfl, _⟩
  · exact ⟨a, c, rfl⟩
  · exact ⟨_, _, rfl⟩
theorem PrsAt.row {w : World} {v : Value} {l : List Pr} (h : PrsAt w v l) (h0 : l ≠ []) : ∃ g cap, v = .slice (some ⟨g, 0, none⟩) l.length cap ∧ g < w.heap.size ∧ l.length ≤ cap ∧
    ∀ i (h : i < l.length), ∃ a c, w.cell? ⟨g, i * 4, none⟩ = some (.string l[i].1) ∧ w.cell? ⟨g, i * 4 + 1, none⟩ = some (.int .i64 l[i].2.kind) ∧ w.cell? ⟨g, i * 4 + 2, none⟩ = some (.string l[i].2.name) ∧ w.cell? ⟨g, i * 4 + 3, none⟩ = some (.slice a l[i].2.kids.length c) ∧
      TysAt w (.slice a l[i].2.kids.length c) l[i].2.kids := by
  rcases h with ⟨h, _⟩ | ⟨g, cap, cs, fz, u, rfl, h1, h2, h3⟩
  · exact absurd h h0
  · refine ⟨g, cap, rfl, (Array.getElem?_eq_some_iff.1 h1).1, h2, fun i hi => ?_⟩
    obtain ⟨⟨c0, c1, c2, c3⟩, ht⟩ := h3 i hi
    obtain ⟨a, c, e⟩ := ht.shape
    rw [e] at c3 ht
    refine ⟨a, c, ?_, ?_, ?_, ?_, ht⟩
    · simp only [World.cell?, h1]; simpa using c0
    · simp only [World.cell?, h1]; simpa using c1
    · simp only [World.cell?, h1]; simpa using c2
    · simp only [World.cell?, h1]; simpa using c3

set_option maxHeartbeats 1000000 in
theorem samePred_any (q q' : Pr) (hf : Fits q.2) (a b : Option Addr) (c d : Nat) (w : World) (h : TysAt w (.slice a q.2.kids.length c) q.2.kids) (h' : TysAt w (.slice b q'.2.kids.length d) q'.2.kids) :
    Calls Try.prog 35 #[prV q (.slice a q.2.kids.length c), prV q' (.slice b q'.2.kids.length d)] w fun e w' => e = .returned (.bool (eqB q q')) ∧ Below w.heap.size w w' := by
  have HC := Lib.hid (fun (W : World) (k : KeepT w W) => sameType_any hf (h.keep k) (h'.keep k))
  have HZ := Lib.hid (fun o1 o2 : Obj => (keepT_alloc w o1).trans (keepT_alloc (w.alloc o1) o2))
  have HB := Lib.hid (fun o1 o2 : Obj => ((Below.refl _ w).alloc (Nat.le_refl _) o1).alloc (show w.heap.size ≤ (w.alloc o1).heap.size by simp) o2)
  obtain ⟨n, t⟩ := q
  obtain ⟨n', t'⟩ := q'
  have e1 := bytes_beq n n'
  clear hf h h'
  obtain ⟨res, hres⟩ : ∃ r, eqB (n, t) (n', t') = r := ⟨_, rfl⟩
  have HR := Lib.hid hres
  rw [hres]; clear hres
  simp only [tyV, prV] at HC ⊢
  by_cases hm : n = n'
  · rw [eqB_true hm] at e1
    have HM := Lib.hid hm; clear hm
    go_enter Try.func35, Try.ntmps35
    go_wp2_with (go_at_call 15; refine (HC.out _ (HZ.out _ _)).mono ?_)
    rintro e w2 ⟨rfl, hb2⟩
    have HB2 := Lib.hid hb2; clear hb2
    go_wp2
    go_ret
    refine ⟨?_, (HB.out _ _).trans (HB2.out.mono (by simp; omega))⟩
    rw [← HR.out]
    by_cases hq : t = t'
    · rw [eqB_true hq, eqB_true (show (n, t) = (n', t') by rw [HM.out, hq])]
      rfl
    · rw [eqB_false hq, eqB_false (fun e => hq (Prod.mk.inj e).2)]
      rfl
  · rw [eqB_false hm] at e1
    have hr : res = false := by rw [← HR.out]; exact eqB_false (fun e => hm (Prod.mk.inj e).1)
    subst hr
    clear HR hm
    go_enter Try.func35, Try.ntmps35
    go_wp2_with (first | fail)
    go_ret
    exact ⟨rfl, HB.out _ _⟩

set_option maxHeartbeats 600000 in
theorem samePreds_of (l l' : List Pr) (H : ∀ q ∈ l, Fits q.2) (a b : Option Addr) (c d : Nat) (w : World) (h : PrsAt w (.slice a l.length c) l) (h' : PrsAt w (.slice b l'.length d) l') (hn : l.length < 1152921504606846976) :
    Calls Try.prog 18 #[.slice a l.length c, .slice b l'.length d] w fun e w' => e = .returned (.bool (eqB l l')) ∧ Below w.heap.size w w' := by
  by_cases hl : l.length = l'.length
  · by_cases h0 : l = []
    · subst h0
      obtain rfl : l' = [] := List.length_eq_zero_iff.1 hl.symm
      rw [eqB_true rfl]
      clear h h' H
      go_enter Try.func18, Try.ntmps18
      go_wp2
      go_loopw [5] (fun vi wr => vi = .int .i64 0 ∧ Hid (Below w.heap.size w wr)) (fun _ _ => 0)
      case atStart => exact ⟨rfl, Lib.hid (Below.refl _ _)⟩
      case round =>
        obtain ⟨rfl, hB⟩ := hrel
        go_wp2
        go_ret
        exact ⟨rfl, hB.out⟩
    · have h0' : l' ≠ [] := by intro e; rw [e] at hl; exact h0 (List.length_eq_zero_iff.1 hl)
      obtain ⟨g1, c1, e1, hg1, hc1, r1⟩ := h.row h0
      obtain ⟨g2, c2, e2, hg2, hc2, r2⟩ := h'.row h0'
      cases e1; cases e2
      have HR1 := Lib.hid r1; clear r1
      have HR2 := Lib.hid r2; clear r2
      have HS := Lib.hid H; clear H
      obtain ⟨res, hres⟩ : ∃ r, eqB l l' = r := ⟨_, rfl⟩
      have HRes := Lib.hid hres
      rw [hres]; clear hres h h'
      rw [← hl] at hc2 ⊢
      have HL := Lib.hid hl; clear hl
      have hm : ((l.length : Int) != (l.length : Int)) = false := by simp
      go_enter Try.func18, Try.ntmps18
      go_wp2
      go_loopw [5] (fun vi wr => ∃ i : Nat, i ≤ l.length ∧ vi = .int .i64 i ∧ Hid (Below w.heap.size w wr) ∧ Hid (∀ j (h1 : j < l.length) (h2 : j < l'.length), j < i → l[j] = l'[j])) (fun vi _ => l.length - (intOf vi).toNat)
      case atStart => exact ⟨0, Nat.zero_le _, rfl, Lib.hid (Below.refl _ _), Lib.hid (fun j _ _ h => absurd h (by omega))⟩
      case round =>
        obtain ⟨i, hi, rfl, hB, hS⟩ := hrel
        by_cases hlt : i < l.length
        · have hlt' : i < l'.length := HL.out ▸ hlt
          obtain ⟨pa, ca, x0, x1, x2, x3, xk⟩ := HR1.out i hlt
          obtain ⟨pb, cb, y0, y1, y2, y3, yk⟩ := HR2.out i hlt'
          have f1 := fun o => hB.out.cell (p := ⟨g1, o, none⟩) hg1
          have f2 := fun o => hB.out.cell (p := ⟨g2, o, none⟩) hg2
          rw [← f1] at x0 x1 x2 x3; rw [← f2] at y0 y1 y2 y3
          have hcall := samePred_any l[i] l'[i] (HS.out l[i] (List.getElem_mem hlt)) pa pb ca cb
          have XK := Lib.hid xk; have YK := Lib.hid yk
          clear xk yk f1 f2
          have HE := Lib.hid (show l[i] = l[i] ∧ l'[i] = l'[i] from ⟨rfl, rfl⟩)
          obtain ⟨t, ht⟩ : ∃ t, l[i] = t := ⟨_, rfl⟩
          obtain ⟨u, hu⟩ : ∃ u, l'[i] = u := ⟨_, rfl⟩
          have HT := Lib.hid ht; have HU := Lib.hid hu
          rw [ht] at x0 x1 x2 x3 hcall XK
          rw [hu] at y0 y1 y2 y3 hcall YK
          simp only [prV] at hcall
          clear ht hu HE
          have HC := Lib.hid (fun W (k : KeepT w W) => hcall W (XK.out.keep k) (YK.out.keep k)); clear hcall
          have HK : Hid (KeepT w wr.drew) := Lib.hid (fun k cs fz h => KeepT.of_below hB.out k cs fz h)
          go_wp2
          by_cases hq : t = u
          · rw [eqB_true hq] at HC
            have HQ := Lib.hid hq; clear hq
            go_region_with (first
              | (go_at_call 35; refine (HC.out _ ?kk).mono ?_; (case kk => exact HK.out); rintro e w2 ⟨rfl, hb2⟩; have HB2 := Lib.hid hb2; clear hb2))
            all_goals go_wp2
            all_goals
              go_roundw
              case rel => exact ⟨i + 1, by omega, by go_num, Lib.hid (hB.out.drew.trans (HB2.out.mono hB.out.size)), Lib.hid (fun j h1 h2 hj => by
                by_cases hji : j = i
                · subst hji; rw [HT.out, HU.out]; exact HQ.out
                · exact hS.out j h1 h2 (by omega))⟩
              case measure => simp [intOf]; omega
          · rw [eqB_false hq] at HC
            have hres : res = false := by
              rw [← HRes.out]
              refine eqB_false fun e => hq ?_
              rw [← HT.out, ← HU.out]
              exact List.getElem_of_eq e hlt
            clear HT HU HRes hq
            subst hres
            go_region_with (first
              | (go_at_call 35; refine (HC.out _ ?kk).mono ?_; (case kk => exact HK.out); rintro e w2 ⟨rfl, hb2⟩; have HB2 := Lib.hid hb2; clear hb2))
            all_goals go_wp2
            all_goals go_ret
            all_goals exact ⟨rfl, hB.out.drew.trans (HB2.out.mono hB.out.size)⟩
        · obtain rfl : i = l.length := by omega
          have hres : res = true := by
            rw [← HRes.out]
            exact eqB_true (List.ext_getElem HL.out (fun j h1 h2 => hS.out j h1 h2 h1))
          clear HRes
          subst hres
          go_wp2
          go_ret
          exact ⟨rfl, hB.out⟩
  · have hm : ((l.length : Int) != (l'.length : Int)) = true := by simp; omega
    rw [eqB_false (fun e => hl (by rw [e]))]
    clear h h' H
    go_enter Try.func18, Try.ntmps18
    go_wp2
    go_ret
    exact ⟨rfl, Below.refl _ _⟩

end Go.Proofs.Ytmbaolcdjgilpaa
