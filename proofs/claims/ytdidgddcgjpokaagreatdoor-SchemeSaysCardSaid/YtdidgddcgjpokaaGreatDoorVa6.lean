/- Merged: RegTail, SbRPreds, SsT, NyRsT, NyRsR, NyNil, NySort, FrS, SfB, GvSmK, NzA, NzRa, NzRb, NzRe. -/
import Derived.Test.YtdidgddcgjpokaaGreatDoorVa3
import Derived.Test.YtdidgddcgjpokaaGreatDoorVa4
import Derived.Deep.RegionLaw
import Derived.Test.YtdidgddcgjpokaaGreatDoorVa5
import Derived.Maps.AppendAt
import Derived.Deep.AppendLies
import Derived.Deep.Upon
import Derived.Lib.QuietBelow
/- A region that draws its order and ends with an append and the assignment of what it gives: all but these two by an invariant. -/
namespace Go.Proofs.YtdidgddcgjpokaaGreatDoor

section
variable {P : Program} {ops : Array Oper} {Q : Exit → Act → World → Prop} {fr : (Nat → Value) → Act} {S : World → Prop} {Rel : World → World → Prop} {Vals : Nat → Value → World → Prop} {s : Nat}

/-- What is asked of the last operation, behind the last but one. -/
def LastOf (P : Program) (ops : Array Oper) (Q : Exit → Act → World → Prop) (o : Oper) (a : Act) (w : World) : Prop :=
  ∀ K : Act → World → Prop, (∀ v w', Q .normal (a.put o.dst v) w' → K (a.put o.dst v) w') → if Region.wanted o (yielded ops a.tmps) = true then Oper.wp P o a w K Q else K (a.put o.dst undef) w

theorem count_low {l : Array Bool} (hz : l.size = s + 2) (h0 : l.getD s false = false) (h1 : l.getD (s + 1) false = false) : l.toList.count true ≤ s := by
  have hl : l.toList.length = s + 2 := by simpa using hz
  have : l.toList.count true = (l.toList.take s).count true + (l.toList.drop s).count true := by rw [← List.count_append, List.take_append_drop]
  have hd : (l.toList.drop s).count true = 0 := by
    rw [List.count_eq_zero]
    intro hm
    obtain ⟨k, hk, e⟩ := List.getElem_of_mem hm
    rw [List.length_drop, hl] at hk
    rw [List.getElem_drop] at e
    have : k = 0 ∨ k = 1 := by omega
    rcases this with rfl | rfl
    · simp [show s < l.size by omega] at h0; simp at e; rw [h0] at e; cases e
    · simp [show s + 1 < l.size by omega] at h1; simp at e; rw [h1] at e; cases e
  have ht : (l.toList.take s).count true ≤ s := Nat.le_trans List.count_le_length (by rw [List.length_take]; omega)
  omega

theorem tail_any {o1 o2 : Oper} (ho1 : ops[s]? = some o1) (ho2 : ops[s + 1]? = some o2) (hsz : ops.size = s + 2) (hput : ∀ i o, i < s → ops[i]? = some o → StepAt P fr S Rel Vals ops Q i o)
    (hb1 : ∀ e ∈ o1.after, Region.binds .any e = true → e.on < s) (hb2 : ∀ e ∈ o2.after, Region.binds .any e = true → e.on < s + 1) (hd2 : ∃ e ∈ o2.after, Region.binds .any e = true ∧ e.on = s)
    (hcov : ∀ i, i < s → ∃ j o e, i < j ∧ j ≤ s ∧ ops[j]? = some o ∧ e ∈ o.after ∧ Region.binds .any e = true ∧ e.on = i)
    (hrel : ∀ w w', S w → Rel w w' → S w') (hval : ∀ i v w w', S w → Vals i v w → Rel w w' → Vals i v w')
    (hlast : ∀ x w, S w → (∀ i, i < s → Vals i (x i) w) → ∀ K : Act → World → Prop, (∀ v w', LastOf P ops Q o2 ((fr x).put o1.dst v) w' → K ((fr x).put o1.dst v) w') →
      if Region.wanted o1 (yielded ops (fr x).tmps) = true then Oper.wp P o1 (fr x) w K Q else K ((fr x).put o1.dst undef) w) :
    ∀ (fuel : Nat) (listed : Array Bool) (x : Nat → Value) (w : World), listed.size = ops.size → ops.size ≤ fuel + listed.toList.count true → S w → listed.getD s false = false → listed.getD (s + 1) false = false →
      (∀ j o, listed.getD j false = true → ops[j]? = some o → ∀ e ∈ o.after, Region.binds .any e = true → listed.getD e.on false = true) →
      (∀ i, listed.getD i false = true → Vals i (x i) w) → wpAny P .any ops Q fuel listed (fr x) w := by
  have hback : ∀ i o, ops[i]? = some o → ∀ e ∈ o.after, Region.binds .any e = true → e.on < i := fun i o ho => by
    have hi : i < s + 2 := by rw [← hsz]; exact (Array.getElem?_eq_some_iff.1 ho).1
    by_cases e : i = s
    · subst e; rw [ho1] at ho; cases ho; exact hb1
    · by_cases e2 : i = s + 1
      · subst e2; rw [ho2] at ho; cases ho; exact hb2
      · exact (hput i o (by omega) ho).back
  have hend : ∀ (listed : Array Bool), listed.size = ops.size → listed.getD (s + 1) false = false → Region.ready .any ops listed = [] → False := fun listed hz h0 h => by
    have := all_of_none hback hz h (s + 1) (by omega)
    rw [h0] at this; cases this
  intro fuel
  induction fuel with
  | zero =>
    intro listed x w hz hc hS h0 h1 hcl hV
    have := count_low (s := s) (by omega) h0 h1
    omega
  | succ fuel ih =>
    intro listed x w hz hc hS h0 h1 hcl hV
    refine ⟨fun h => (hend listed hz h1 h).elim, fun i hi => ?_⟩
    obtain ⟨hi0, o, ho, hdep⟩ := mem_ready.1 hi
    have hlt : i < listed.size := by rw [hz]; exact (Array.getElem?_eq_some_iff.1 ho).1
    have hi0' : listed[i] = false := by simpa [hlt] using hi0
    have hsetD : ∀ j, (listed.setIfInBounds i true).getD j false = true → j = i ∨ listed.getD j false = true := fun j hj => by
      by_cases hji : j = i
      · exact .inl hji
      · rw [getD_set_ne false (Ne.symm hji)] at hj; exact .inr hj
    have hsetI : (listed.setIfInBounds i true).getD i false = true := by simp [hlt]
    have hmono : ∀ j, listed.getD j false = true → (listed.setIfInBounds i true).getD j false = true := fun j hj => by
      by_cases hji : j = i
      · subst hji; exact hsetI
      · rw [getD_set_ne false (Ne.symm hji)]; exact hj
    by_cases hi2 : i = s + 1
    · subst hi2
      rw [ho2] at ho; cases ho
      obtain ⟨e, he, hb, hon⟩ := hd2
      have := hdep e he hb
      rw [hon, h0] at this; cases this
    by_cases his : i = s
    · subst his
      rw [ho1] at ho; cases ho
      have hall : ∀ j, j < i → listed.getD j false = true := fun j hj => all_ahead hcov hcl (fun o' ho' => by rw [ho1] at ho'; cases ho'; exact hdep) (i - j) j (by omega) (by omega)
      have hcl2 := count_low (s := i) (by omega) h0 h1
      obtain ⟨fuel', rfl⟩ : ∃ f, fuel = f + 1 := ⟨fuel - 1, by omega⟩
      have hK : ∀ v w', LastOf P ops Q o2 ((fr x).put o1.dst v) w' → wpAny P .any ops Q (fuel' + 1) (listed.setIfInBounds i true) ((fr x).put o1.dst v) w' := fun v w' hq => by
        refine ⟨fun h => (hend _ (by simpa using hz) (by rw [getD_set_ne false (by omega)]; exact h1) h).elim, fun j hj => ?_⟩
        obtain ⟨hj0, oj, hoj, hjd⟩ := mem_ready.1 hj
        have hjl : j < i + 2 := by rw [← hsz]; exact (Array.getElem?_eq_some_iff.1 hoj).1
        have hj2 : j = i + 1 := by
          by_cases e : j = i
          · subst e; rw [getD_tt hsetI] at hj0; cases hj0
          · by_cases e2 : j = i + 1
            · exact e2
            · have := hmono j (hall j (by omega))
              rw [getD_tt this] at hj0; cases hj0
        subst hj2
        rw [ho2] at hoj; cases hoj
        have hK2 : ∀ v2 w2, Q .normal (((fr x).put o1.dst v).put o2.dst v2) w2 → wpAny P .any ops Q fuel' ((listed.setIfInBounds i true).setIfInBounds (i + 1) true) (((fr x).put o1.dst v).put o2.dst v2) w2 := fun v2 w2 hq2 => by
          have hlt2 : i + 1 < listed.size := by omega
          have hnone : Region.ready .any ops ((listed.setIfInBounds i true).setIfInBounds (i + 1) true) = [] := by
            cases h : Region.ready .any ops ((listed.setIfInBounds i true).setIfInBounds (i + 1) true) with
            | nil => rfl
            | cons k l =>
              have hk : k ∈ Region.ready .any ops ((listed.setIfInBounds i true).setIfInBounds (i + 1) true) := by rw [h]; simp
              obtain ⟨hk0, ok, hok, _⟩ := mem_ready.1 hk
              have hkl : k < i + 2 := by rw [← hsz]; exact (Array.getElem?_eq_some_iff.1 hok).1
              have : ((listed.setIfInBounds i true).setIfInBounds (i + 1) true).getD k false = true := by
                by_cases e : k = i + 1
                · subst e; simp [hlt2]
                · rw [getD_set_ne false (Ne.symm e)]
                  by_cases e2 : k = i
                  · subst e2; exact hsetI
                  · exact hmono k (hall k (by omega))
              rw [getD_tt this] at hk0; cases hk0
          cases fuel' with
          | zero => exact ⟨hnone, hq2⟩
          | succ f => exact ⟨fun _ => hq2, fun j hj => by rw [hnone] at hj; cases hj⟩
        have := hq _ hK2
        unfold wpOp
        simp only [ho2]
        split
        · rename_i hw; rw [if_pos hw] at this; exact .inl this
        · rename_i hw; rw [if_neg hw] at this; exact this
      have := hlast x w hS (fun j hj => hV j (hall j hj)) _ hK
      unfold wpOp
      simp only [ho1]
      split
      · rename_i hw; rw [if_pos hw] at this; exact .inl this
      · rename_i hw; rw [if_neg hw] at this; exact this
    · have hil : i < s := by have := (Array.getElem?_eq_some_iff.1 ho).1; omega
      have H := hput i o hil ho
      have hK : ∀ v w', Rel w w' → Vals i v w' → wpAny P .any ops Q fuel (listed.setIfInBounds i true) ((fr x).put o.dst v) w' := fun v w' hr hv => by
        rw [H.put]
        refine ih _ _ _ (by simpa using hz) ?_ (hrel w w' hS hr) (by rw [getD_set_ne false his]; exact h0) (by rw [getD_set_ne false hi2]; exact h1) (fun j oj hj hoj e he hb => ?_) fun j hj => ?_
        · have : (listed.setIfInBounds i true).toList.count true = listed.toList.count true + 1 := by
            rw [Array.toList_setIfInBounds, List.count_set (by simpa using hlt)]
            simp [hi0']
          omega
        · rcases hsetD j hj with rfl | hj'
          · rw [ho] at hoj; cases hoj
            exact hmono _ (hdep e he hb)
          · exact hmono _ (hcl j oj hj' hoj e he hb)
        · by_cases hji : j = i
          · subst hji; rw [upd_same]; exact hv
          · rw [upd_other x v hji]
            exact hval _ _ _ _ hS (hV j (by rw [getD_set_ne false (Ne.symm hji)] at hj; exact hj)) hr
      have := H.run x w hS (fun e he hb => hV e.on (hdep e he hb)) _ hK
      unfold wpOp
      simp only [ho]
      split
      · rename_i hw; rw [if_pos hw] at this; exact .inl this
      · rename_i hw; rw [if_neg hw] at this; exact this

/-- What is asked of all but the last two operations, and of these. -/
def AllTail (f : Nat → Oper → Prop) (g : Oper → Oper → Prop) : Nat → List Oper → Prop
  | _, [] => False
  | _, [_] => False
  | _, [o, o'] => g o o'
  | n, o :: o' :: o'' :: os => f n o ∧ AllTail f g (n + 1) (o' :: o'' :: os)
theorem AllTail.get {f : Nat → Oper → Prop} {g : Oper → Oper → Prop} : ∀ {l : List Oper} {n : Nat}, AllTail f g n l → (∀ {i : Nat} {o : Oper}, l[i]? = some o → i + 2 < l.length → f (n + i) o) ∧ (∀ {i : Nat} {o o' : Oper}, l[i]? = some o → l[i + 1]? = some o' → i + 2 = l.length → g o o')
  | [], _, h => h.elim
  | [_], _, h => h.elim
  | [a, b], n, h => ⟨fun {i o} _ hi => by simp at hi; omega, fun {i o o'} h1 h2 hi => by
      have : i = 0 := by simp at hi; omega
      subst this; simp at h1 h2; subst h1; subst h2; exact h⟩
  | a :: b :: c :: l, n, h => by
    obtain ⟨r1, r2⟩ := AllTail.get h.2
    refine ⟨fun {i o} h1 hi => ?_, fun {i o o'} h1 h2 hi => ?_⟩
    · cases i with
      | zero => simp at h1; subst h1; exact h.1
      | succ i =>
        have := r1 (i := i) (o := o) (by simpa using h1) (by simp at hi ⊢; omega)
        rw [show n + (i + 1) = n + 1 + i by omega]; exact this
    · cases i with
      | zero => simp at hi
      | succ i => exact r2 (i := i) (by simpa using h1) (by simpa using h2) (by simp at hi ⊢; omega)

/-- What is asked of the last but one. -/
structure TailAt (P : Program) (fr : (Nat → Value) → Act) (S : World → Prop) (Vals : Nat → Value → World → Prop) (ops : Array Oper) (Q : Exit → Act → World → Prop) (s : Nat) (o o2 : Oper) : Prop where
  back : ∀ e ∈ o.after, Region.binds .any e = true → e.on < s
  back2 : ∀ e ∈ o2.after, Region.binds .any e = true → e.on < s + 1
  dep : ∃ e ∈ o2.after, Region.binds .any e = true ∧ e.on = s
  run : ∀ (x : Nat → Value) (w : World), S w → (∀ i, i < s → Vals i (x i) w) → ∀ K : Act → World → Prop, (∀ v w', LastOf P ops Q o2 ((fr x).put o.dst v) w' → K ((fr x).put o.dst v) w') →
      if Region.wanted o (yielded ops (fr x).tmps) = true then Oper.wp P o (fr x) w K Q else K ((fr x).put o.dst undef) w

theorem region_tail (fr : (Nat → Value) → Act) (S : World → Prop) (Rel : World → World → Prop) (Vals : Nat → Value → World → Prop) (x0 : Nat → Value) (s : Nat) {id : Nat} {a : Act} {w : World}
    (hm : P.follows .mixedOrders = true) (ha : a = fr x0) (hS : S w.drew) (hsz : ops.size = s + 2) (hcov : covered ops s = true)
    (hrel : ∀ w w', S w → Rel w w' → S w') (hval : ∀ i v w w', S w → Vals i v w → Rel w w' → Vals i v w')
    (hops : AllTail (StepAt P fr S Rel Vals ops Q) (TailAt P fr S Vals ops Q s) 0 ops.toList) : (Code.region id ops true).wp P Q a w := by
  subst ha
  refine wp_region_any hm ?_
  obtain ⟨g1, g2⟩ := hops.get
  obtain ⟨o1, ho1⟩ : ∃ o, ops[s]? = some o := ⟨ops[s]'(by omega), Array.getElem?_eq_getElem (by omega)⟩
  obtain ⟨o2, ho2⟩ : ∃ o, ops[s + 1]? = some o := ⟨ops[s + 1]'(by omega), Array.getElem?_eq_getElem (by omega)⟩
  have T := g2 (i := s) (by simpa using ho1) (by simpa using ho2) (by simp [hsz])
  refine tail_any ho1 ho2 hsz (fun i o hi h => ?_) T.back T.back2 T.dep (covered_get hcov) hrel hval T.run _ _ _ _ (by simp) (by simp) hS (by simp [hsz]) (by simp [hsz]) (fun j o hj => ?_) (fun i hi => ?_)
  · have := g1 (i := i) (o := o) (by simpa using h) (by simp [hsz]; omega); rwa [Nat.zero_add] at this
  · by_cases h : j < ops.size
    · simp [h] at hj
    · simp [h] at hj
  · by_cases h : i < ops.size
    · simp [h] at hi
    · simp [h] at hi
end
end Go.Proofs.YtdidgddcgjpokaaGreatDoor
/- The document's Preds. -/
namespace Go.Proofs.YtdidgddcgjpokaaGreatDoor
open Go.RowKit Go.Sort Go.Lib
attribute [local go_sem] Oper.semAt_some

theorem prs_of_own {W : World} {B : Nat} {v : Value} {ls : List PR} (h : W.ownsRow B 55 4 v ls.length (cellsP ls)) (ht : Typ ls W) : PrsAt W v (ls.map prOf) := by
  by_cases h0 : ls = []
  · subst h0
    obtain ⟨a, c, e⟩ := row_val h
    exact .inl ⟨rfl, a, c, e⟩
  · have hc : ∃ g cap, v = .slice (some ⟨g, 0, none⟩) ls.length cap ∧ ls.length ≤ cap := by
      rcases h.2 with ⟨_, h1⟩ | ⟨g, cap, cur, e, _, _, hc, _⟩
      · exact absurd (List.length_eq_zero_iff.1 h1) h0
      · exact ⟨g, cap, e, hc⟩
    obtain ⟨g, cap, rfl, hcap⟩ := hc
    rcases given_of_row h (fun e => absurd e h0) with ⟨e, _⟩ | ⟨_, g', cap', e, hr⟩
    · exact absurd e h0
    · cases e
      exact prs_of_rowG hr ht hcap

theorem own_below {W W' : World} {base : Nat} {e : TypeId} {size : Nat} {v : Value} {n : Nat} {xs : List Value} (h : W.ownsRow base e size v n xs) (hb : Below W.heap.size W W') : W'.ownsRow base e size v n xs :=
  row_kept h fun k _ _ hk => (hb.block k (Array.getElem?_eq_some_iff.1 hk).1).trans hk
set_option maxRecDepth 100000 in
set_option maxHeartbeats 4000000 in
theorem rpreds_any (u v : Value) (d : List PR) (l : List Pr) (w : World) (hl : d.length < 1000000) (hd : GivenG 53 u d w) (ht : Typ d w) (h : PrsAt w v l) (hq : ∀ q ∈ l, tsize q.2 ≤ 1000000) (hn : l.length ≤ 1000000) :
    Calls Tryz.prog 26 #[u, v] w fun e w' => (∃ a c, e = .returned (.slice a l.length c) ∧ PrsAt w' (.slice a l.length c) (appP d l)) ∧ Below w.heap.size w w' := by
  obtain ⟨av, cv, rfl⟩ := h.shape
  obtain ⟨i0, hi, hz0, hz1, hz2⟩ := info_parts Tryz.infoPred
  have HD := Lib.hid hd; have HT := Lib.hid ht
  obtain ⟨ua, uc, rfl, _⟩ := hd.shape
  have HRow := Lib.hid (fun (i : Nat) (hi : i < l.length) => (by obtain ⟨g, cap, e, hg, hc, hr⟩ := h.row (by rintro rfl; cases hi); exact ⟨g, cap, e, hg, hc, hr i hi⟩ : ∃ g cap, Value.slice av l.length cv = .slice (some ⟨g, 0, none⟩) l.length cap ∧ g < w.heap.size ∧ l.length ≤ cap ∧ ∃ a c, w.cell? ⟨g, i * 4, none⟩ = some (.string l[i].1) ∧ w.cell? ⟨g, i * 4 + 1, none⟩ = some (.int .i64 l[i].2.kind) ∧ w.cell? ⟨g, i * 4 + 2, none⟩ = some (.string l[i].2.name) ∧ w.cell? ⟨g, i * 4 + 3, none⟩ = some (.slice a l[i].2.kids.length c) ∧ TysAt w (.slice a l[i].2.kids.length c) l[i].2.kids))
  have HQ := Lib.hid hq
  clear hd ht h hq
  go_enter Tryz.func26, Tryz.ntmps26
  go_wp2
  go_loopw [5, 6] (fun vo vi wr => ∃ (i : Nat) (ls : List PR), i ≤ l.length ∧ vi = .int .i64 i ∧ Hid ((ls.length = i ∧ ls.map prOf = appP d (l.take i)) ∧ wr.ownsRow w.heap.size 55 4 vo ls.length (cellsP ls) ∧ Typ ls wr ∧ Below w.heap.size w wr)) (fun _ vi _ => l.length - (intOf vi).toNat)
  case atStart => exact ⟨0, [], Nat.zero_le _, rfl, Lib.hid ⟨⟨rfl, rfl⟩, World.ownsRow_nil _ _ _ _, (fun _ h => nomatch h), Below.refl _ _⟩⟩
  case round =>
    obtain ⟨i, ls, hi', rfl, hF⟩ := hrel
    by_cases hlt : i < l.length
    · obtain ⟨⟨hll, hmap⟩, hRow, hTy, hB⟩ := hF.out
      obtain ⟨oa, oc, rfl⟩ := row_val hRow
      obtain ⟨g, cap, e1, hg, hcap, pa, pc, x0, x1, x2, x3, xk⟩ := HRow.out i hlt
      cases e1
      have f1 := fun o => hB.cell (p := ⟨g, o, none⟩) hg
      rw [← f1] at x0 x1 x2 x3
      have hgw : g < wr.heap.size := Nat.lt_of_lt_of_le hg hB.size
      have hqs := HQ.out l[i] (List.getElem_mem hlt)
      have HA := Lib.hid (fun (V : World) (hb : Below w.heap.size w V) => rapp_ret (d := d) (t := l[i].2) (v := .slice ua d.length uc) (a := pa) (c := pc) (w := V) hl (HD.out.below hb) (HT.out.keep (KeepT.of_below hb)) (xk.keep (KeepT.of_below hb)) hqs)
      have HM := Lib.hid (show appP d (l.take (i + 1)) = appP d (l.take i) ++ [(l[i].1, app d l[i].2)] by unfold appP; rw [List.take_succ_eq_append_getElem hlt, List.map_append]; rfl)
      have hlsn : ls.length ≤ 1000000 := by omega
      have HLen := Lib.hid hll; have HMap := Lib.hid hmap; have HRw := Lib.hid hRow; have HTy := Lib.hid hTy; have HB := Lib.hid hB
      clear f1 xk hqs hF hll hmap hRow hTy hB HRow
      generalize l[i] = q at x0 x1 x2 x3 HA HM
      obtain ⟨cn, t⟩ := q
      simp only at x0 x1 x2 x3 HA HM
      have hiz : (i : Int) < (l.length : Int) := by omega
      go_wp2
      go_region_law (first
        | (refine run_bare rfl ?_; go_simp; go_at_call 27; refine (HA.out wr.drew HB.out.drew).mono ?_; rintro e w4 ⟨⟨a4, c4, rfl, hin⟩, hb4⟩; have HI4 := Lib.hid hin; have HB4 : Hid (Below wr.heap.size wr w4) := Lib.hid ((Below.refl _ wr).drew.trans hb4); have x04 := (HB4.out.cell (p := ⟨g, i * 4, none⟩) hgw).trans x0; have HR4 := Lib.hid (own_below HRw.out HB4.out); clear hin hb4)
        | (refine step_append_lies _ (by rfl) _ _ 28 (by rfl) w.heap.size 55 i0 (.agg #[.string ⟨#[]⟩, .int .i64 0, .string ⟨#[]⟩, .slice none 0 0]) 4 64 Tryz.underlying28 hi hz0 hz1 hz2 rfl (by decide) _ _ _ (by rfl) (HR4.out.alloc _) ⟨w4.heap.size, 0, none⟩ 1 1 [.string cn, .int .i64 (app d t).kind, .string (app d t).name, .slice a4 (app d t).kids.length c4] (by rfl) rfl (cell_new4 _ _ _ _ _ _) (by simp [Value.oneCell']) (by decide) (by unfold maxLen; omega) (by omega) (by have := HB.out.size; have := HB4.out.size; simp; omega) _ rfl ?_; intro g5 cap5 w5 ho5 hg5 hat5 hlt5))
      all_goals
        have hs4 := HB4.out.size
        have hsw := HB.out.size
        have hk : KeepT wr w5 := (KeepT.of_below HB4.out).trans ((keepT_alloc w4 _).trans (KeepT.grown hg5 (HR4.out.alloc _) (by decide)))
        have hk4 : KeepT w4 w5 := (keepT_alloc w4 _).trans (KeepT.grown hg5 (HR4.out.alloc _) (by decide))
        have hb5 : Below w.heap.size w w5 := ((HB.out.trans (HB4.out.mono hsw)).alloc (by omega) _).grown hg5 (by simp; omega) (fun j hj => (HRw.out.lt j hj).1)
        have HK := Lib.hid hk; have HK4 := Lib.hid hk4; have HB5 := Lib.hid hb5; have HO5 := Lib.hid ho5
        clear hk hk4 hb5 ho5 hg5 hat5 hlt5
        go_wp2
        go_roundw
        case rel =>
          refine ⟨i + 1, ls ++ [⟨cn, app d t, a4, c4⟩], by omega, by go_num, Lib.hid ⟨⟨by simp [HLen.out], ?_⟩, ?_, ?_, HB5.out⟩⟩
          · rw [List.map_append, HMap.out, HM.out]; rfl
          · rw [cellsP_snoc, List.length_append]; exact HO5.out
          · intro y hy
            rcases List.mem_append.1 hy with hy | hy
            · exact (HTy.out y hy).keep HK.out
            · obtain rfl := List.mem_singleton.1 hy
              exact HI4.out.keep HK4.out
        case measure => simp [intOf]; omega
    · obtain rfl : i = l.length := by omega
      have hp := prs_of_own hF.out.2.1 hF.out.2.2.1
      obtain ⟨oa, oc, rfl⟩ := row_val hF.out.2.1
      rw [hF.out.1.1, hF.out.1.2, List.take_length] at hp
      have hl2 := hF.out.1.1
      have HPp := Lib.hid hp; have HBz := Lib.hid hF.out.2.2.2
      rw [hl2]
      clear hp HRow hF hl2
      go_wp2
      go_ret
      exact ⟨⟨_, _, rfl, HPp.out⟩, HBz.out⟩
end Go.Proofs.YtdidgddcgjpokaaGreatDoor
/- SchemeSorts: the row that is turned: p[at:], then p[:at]. -/
namespace Go.Proofs.YtdidgddcgjpokaaGreatDoor
open Go.RowKit Go.Sort Go.Lib
attribute [local go_sem] Oper.semAt_some

theorem own_lower {W : World} {base b : Nat} {e : TypeId} {size : Nat} {v : Value} {n : Nat} {xs : List Value} (h : W.ownsRow b e size v n xs) (hb : base ≤ b) : W.ownsRow base e size v n xs := by
  refine ⟨h.1, ?_⟩
  rcases h.2 with h | ⟨g, cap, cur, rfl, hg, hc, r⟩
  · exact .inl h
  · exact .inr ⟨g, cap, cur, rfl, Nat.le_trans hb hg, hc, r⟩
end Go.Proofs.YtdidgddcgjpokaaGreatDoor
/- paideiaref4.SortPreds: what its rounds keep. -/
namespace Go.Proofs.YtdidgddcgjpokaaGreatDoor
open Go.RowKit Go.Sort Go.Lib

/-- A predicate alone in a block. -/
def RowQ (x : PR) (zb : Nat) (V : World) : Prop := V.heap[zb]? = some (.cells (encP x).toArray 55 (0, 0))
theorem RowQ.below {x : PR} {zb : Nat} {V Y : World} (h : RowQ x zb V) (hb : Below V.heap.size V Y) : RowQ x zb Y := (hb.block zb (Array.getElem?_eq_some_iff.1 h).1).trans h
/-- The row that is read, the row that grows. -/
def RsI (wr : World) (B gq : Nat) (ls ks : List PR) (oa : Option Addr) (n oc : Nat) (V : World) : Prop :=
  RowF gq ls V ∧ V.ownsRow B 55 4 (.slice oa n oc) n (cellsP ks) ∧ Below wr.heap.size wr V
theorem RsI.below {wr : World} {B gq : Nat} {ls ks : List PR} {oa : Option Addr} {n oc : Nat} {V Y : World} (h : RsI wr B gq ls ks oa n oc V) (hb : Below V.heap.size V Y) : RsI wr B gq ls ks oa n oc Y :=
  ⟨h.1.below hb, own_below h.2.1 hb, h.2.2.trans (hb.mono h.2.2.size)⟩
end Go.Proofs.YtdidgddcgjpokaaGreatDoor
/- SortPreds: the part ahead, and one more: its last statement, a region of 11 operations that draws its order, by an invariant. (Made by a program.) -/
namespace Go.Proofs.YtdidgddcgjpokaaGreatDoor
open Go.RowKit Go.Maps Go.Sort Go.Lib
attribute [local go_sem] Oper.semAt_some

noncomputable def nrsOps : Array Oper := regionIn 9 (Tryz.f20.body.getD .skip)
def nrsFr (b : Nat → Value) (d : List Deferred) (x : Nat → Value) : Act := { tmps := #[b 0, b 1, b 2, b 3, b 4, b 5, b 6, b 7, b 8, b 9, b 10, b 11, b 12, b 13, b 14, b 15, b 16, b 17, b 18, b 19, b 20, b 21, b 22, b 23, b 24, b 25, b 26, b 27, b 28, b 29, b 30, b 31, b 32, b 33, b 34, b 35, b 36, b 37, b 38, b 39, b 40, b 41, b 42, b 43, b 44, x 0, x 1, x 2, x 3, x 4, x 5, x 6, x 7, x 8, x 9, b 55, b 56, b 57, b 58, b 59, b 60], defers := d }

def nrsVals (wr : World) (gq n k oc m lc ix : Nat) (oa : Option Addr) (ks : List PR) (y : PR) (i : Nat) (v : Value) (V : World) : Prop :=
  match i with
  | 0 => v = .slice oa n oc
  | 1 => v = .int .i64 (k : Int)
  | 2 => v = .slice oa k oc
  | 3 => ∃ va vc, v = .slice va k vc ∧ V.ownsRow wr.heap.size 55 4 (.slice va k vc) k (cellsP (ks.take k))
  | 4 => v = .slice (some ⟨gq, 0, none⟩) m lc
  | 5 => v = .int .i64 (ix : Int)
  | 6 => v = .pointer (some ⟨gq, ix * 4, none⟩)
  | 7 => v = .agg #[.string y.n, .int .i64 y.t.kind, .string y.t.name, .slice y.a y.t.kids.length y.c]
  | 8 => ∃ zb, v = .slice (some ⟨zb, 0, none⟩) 1 1 ∧ RowQ y zb V
  | _ => True

theorem nrsVals_keep {wr : World} {gq n k oc m lc ix : Nat} {oa : Option Addr} {ks : List PR} {y : PR} (i : Nat) (v : Value) (V Y : World) (h : nrsVals wr gq n k oc m lc ix oa ks y i v V) (hb : Below V.heap.size V Y) : nrsVals wr gq n k oc m lc ix oa ks y i v Y := by
  unfold nrsVals at *
  split at h <;> first
    | exact h
    | (obtain ⟨va, vc, e, h⟩ := h; exact ⟨va, vc, e, own_below h hb⟩)
    | (obtain ⟨zb, e, h⟩ := h; exact ⟨zb, e, h.below hb⟩)

theorem nrs_size : nrsOps.size = 11 := by kernel_rfl
theorem nrs_cov : covered nrsOps 9 = true := by kernel_rfl
set_option linter.unusedSimpArgs false in
set_option maxRecDepth 100000 in
set_option maxHeartbeats 8000000 in
theorem nrs_region {wr : World} {B gq n k oc m lc ix : Nat} {oa : Option Addr} {ls ks : List PR} {y : PR} (hy : Hid (ls.getD ix noP = y)) (hix : ix < ls.length) (hi0 : (0 : Int) ≤ (ix : Int)) (him : (ix : Int) < (m : Int)) (hk0 : (0 : Int) ≤ (k : Int)) (hkn : (k : Int) ≤ (n : Int)) (hkp : (k : Int) ≤ (oc : Int)) (hnp : (n : Int) ≤ (oc : Int)) (hn6 : n ≤ 100) (hks : ks.length = n) {b : Nat → Value} {d : List Deferred}
    (h3 : b 3 = .slice oa n oc) (h5 : b 5 = .int .i64 (k : Int)) (h0 : b 0 = .slice (some ⟨gq, 0, none⟩) m lc) (h4 : b 4 = .int .i64 (ix : Int))
    (HC3 : ∀ V, RsI wr B gq ls ks oa n oc V → Calls Tryz.prog 48 #[.slice oa k oc] V fun e Y => (∃ va vc, e = .returned (.slice va k vc) ∧ Y.ownsRow wr.heap.size 55 4 (.slice va k vc) k (cellsP (ks.take k))) ∧ Below V.heap.size V Y)
    {Q : Exit → Act → World → Prop} {ops : Array Oper} (hops : ops = nrsOps) (x0 : Nat → Value) (X : World) (hS : RsI wr B gq ls ks oa n oc X.drew)
    (hfin : ∀ (x : Nat → Value) g9 c9 w9, w9.ownsRow wr.heap.size 55 4 (.slice (some ⟨g9, 0, none⟩) (k + 1) c9) (k + 1) (cellsP (ks.take k) ++ encP y) → Below wr.heap.size wr w9 → Q .normal (((nrsFr b d x).put (some 54) (.slice (some ⟨g9, 0, none⟩) (k + 1) c9)).put (some 6) (.slice (some ⟨g9, 0, none⟩) (k + 1) c9)) w9) : (Code.region 9 ops true).wp Tryz.prog Q (nrsFr b d x0) X := by
  have HC := Lib.hid (HC3)
  clear HC3
  have hszo : ops.size = 9 + 2 := by rw [hops]; exact nrs_size
  have hcovo : covered ops 9 = true := by rw [hops]; exact nrs_cov
  refine region_tail (nrsFr b d) (fun V => RsI wr B gq ls ks oa n oc V) (fun V Y => Below V.heap.size V Y) (nrsVals wr gq n k oc m lc ix oa ks y) x0 9 (by kernel_rfl) rfl hS hszo hcovo (fun V Y h hb => h.below hb) (fun i v V Y _ h hb => nrsVals_keep i v V Y h hb) ?_
  have HFIN := Lib.hid hfin
  clear hfin hS hszo hcovo
  obtain ⟨gl, hgl⟩ : ∃ qq, TailAt Tryz.prog (nrsFr b d) (fun V => RsI wr B gq ls ks oa n oc V) (nrsVals wr gq n k oc m lc ix oa ks y) ops Q 9 = qq := ⟨_, rfl⟩
  rw [hgl]
  obtain ⟨f, hf⟩ : ∃ qq, StepAt Tryz.prog (nrsFr b d) (fun V => RsI wr B gq ls ks oa n oc V) (fun V Y => Below V.heap.size V Y) (nrsVals wr gq n k oc m lc ix oa ks y) ops Q = qq := ⟨_, rfl⟩
  rw [hf, hops]
  simp only [nrsOps, Tryz.f20, regionIn, Option.getD_some, Nat.reduceBEq, Bool.false_eq_true, if_false, if_true, beq_self_eq_true, Array.append_empty, Array.empty_append, List.append_eq, List.cons_append, List.nil_append, AllTail, Nat.reduceAdd, Nat.zero_add]
  -- 0: slot 45 := Op.move t3
  refine And.intro ?_ ?_
  · clear HFIN hgl
    rw [← hf]; clear hf
    refine ⟨by decide +kernel, fun x v => by kernel_rfl, fun x V hV hdep K hK => ?_⟩
    clear hdep
    refine run_bare (by kernel_rfl) ?_
    unfold nrsFr
    go_simp
    refine kfit (hK _ _ (Below.refl _ V) rfl) ?_
    first | (simp only [nrsFr, Act.put, List.setIfInBounds_toArray, List.set_cons_zero, List.set_cons_succ, h3, h5, h0, h4]; done) | (simp only [nrsFr, Act.put, List.setIfInBounds_toArray, List.set_cons_zero, List.set_cons_succ, h3, h5, h0, h4]; rfl)
  -- 1: slot 46 := Op.move t5
  refine And.intro ?_ ?_
  · clear HFIN hgl
    rw [← hf]; clear hf
    refine ⟨by decide +kernel, fun x v => by kernel_rfl, fun x V hV hdep K hK => ?_⟩
    clear hdep
    refine run_bare (by kernel_rfl) ?_
    unfold nrsFr
    go_simp
    refine kfit (hK _ _ (Below.refl _ V) rfl) ?_
    first | (simp only [nrsFr, Act.put, List.setIfInBounds_toArray, List.set_cons_zero, List.set_cons_succ, h3, h5, h0, h4]; done) | (simp only [nrsFr, Act.put, List.setIfInBounds_toArray, List.set_cons_zero, List.set_cons_succ, h3, h5, h0, h4]; rfl)
  -- 2: slot 47 := Op.slice 28 t45 none (some t46) none
  refine And.intro ?_ ?_
  · clear HFIN hgl
    rw [← hf]; clear hf
    refine ⟨by decide +kernel, fun x v => by kernel_rfl, fun x V hV hdep K hK => ?_⟩
    have e0 : x 0 = .slice oa n oc := depOf hdep 0 (by decide +kernel)
    have e1 : x 1 = .int .i64 (k : Int) := depOf hdep 1 (by decide +kernel)
    clear hdep
    refine run_bare (by kernel_rfl) ?_
    unfold nrsFr
    go_simp
    refine kfit (hK _ _ (Below.refl _ V) rfl) ?_
    first | (simp only [nrsFr, Act.put, List.setIfInBounds_toArray, List.set_cons_zero, List.set_cons_succ, h3, h5, h0, h4, e0, e1]; done) | (simp only [nrsFr, Act.put, List.setIfInBounds_toArray, List.set_cons_zero, List.set_cons_succ, h3, h5, h0, h4, e0, e1]; rfl)
  -- 3: slot 48 := Op.call { value (Operand.func 48), args := #[t47], argTypes 
  refine And.intro ?_ ?_
  · clear HFIN hgl
    rw [← hf]; clear hf
    refine ⟨by decide +kernel, fun x v => by kernel_rfl, fun x V hV hdep K hK => ?_⟩
    have e2 : x 2 = .slice oa k oc := depOf hdep 2 (by decide +kernel)
    clear hdep
    refine run_bare (by kernel_rfl) ?_
    unfold nrsFr
    have HC3 := HC.out
    have H := HC3 V hV
    replace H := Lib.hid H; clear HC3
    go_simp
    go_at_call 48
    refine H.out.mono ?_
    rintro e Y ⟨⟨va, vc, rfl, hq⟩, hb⟩; refine kfit (hK _ _ hb ⟨va, vc, rfl, hq⟩) ?_
    first | (simp only [nrsFr, Act.put, List.setIfInBounds_toArray, List.set_cons_zero, List.set_cons_succ, h3, h5, h0, h4, e2]; done) | (simp only [nrsFr, Act.put, List.setIfInBounds_toArray, List.set_cons_zero, List.set_cons_succ, h3, h5, h0, h4, e2]; rfl)
  -- 4: slot 49 := Op.move t0
  refine And.intro ?_ ?_
  · clear HFIN hgl
    rw [← hf]; clear hf
    refine ⟨by decide +kernel, fun x v => by kernel_rfl, fun x V hV hdep K hK => ?_⟩
    clear hdep
    refine run_bare (by kernel_rfl) ?_
    unfold nrsFr
    go_simp
    refine kfit (hK _ _ (Below.refl _ V) rfl) ?_
    first | (simp only [nrsFr, Act.put, List.setIfInBounds_toArray, List.set_cons_zero, List.set_cons_succ, h3, h5, h0, h4]; done) | (simp only [nrsFr, Act.put, List.setIfInBounds_toArray, List.set_cons_zero, List.set_cons_succ, h3, h5, h0, h4]; rfl)
  -- 5: slot 50 := Op.move t4
  refine And.intro ?_ ?_
  · clear HFIN hgl
    rw [← hf]; clear hf
    refine ⟨by decide +kernel, fun x v => by kernel_rfl, fun x V hV hdep K hK => ?_⟩
    clear hdep
    refine run_bare (by kernel_rfl) ?_
    unfold nrsFr
    go_simp
    refine kfit (hK _ _ (Below.refl _ V) rfl) ?_
    first | (simp only [nrsFr, Act.put, List.setIfInBounds_toArray, List.set_cons_zero, List.set_cons_succ, h3, h5, h0, h4]; done) | (simp only [nrsFr, Act.put, List.setIfInBounds_toArray, List.set_cons_zero, List.set_cons_succ, h3, h5, h0, h4]; rfl)
  -- 6: slot 51 := Op.indexAddr 28 t49 t50
  refine And.intro ?_ ?_
  · clear HFIN hgl
    rw [← hf]; clear hf
    refine ⟨by decide +kernel, fun x v => by kernel_rfl, fun x V hV hdep K hK => ?_⟩
    have e4 : x 4 = .slice (some ⟨gq, 0, none⟩) m lc := depOf hdep 4 (by decide +kernel)
    have e5 : x 5 = .int .i64 (ix : Int) := depOf hdep 5 (by decide +kernel)
    clear hdep
    refine run_bare (by kernel_rfl) ?_
    unfold nrsFr
    go_simp
    refine kfit (hK _ _ (Below.refl _ V) rfl) ?_
    first | (simp only [nrsFr, Act.put, List.setIfInBounds_toArray, List.set_cons_zero, List.set_cons_succ, h3, h5, h0, h4, e4, e5]; done) | (simp only [nrsFr, Act.put, List.setIfInBounds_toArray, List.set_cons_zero, List.set_cons_succ, h3, h5, h0, h4, e4, e5]; rfl)
  -- 7: slot 52 := Op.load 55 t51
  refine And.intro ?_ ?_
  · clear HFIN hgl
    rw [← hf]; clear hf
    refine ⟨by decide +kernel, fun x v => by kernel_rfl, fun x V hV hdep K hK => ?_⟩
    have e6 : x 6 = .pointer (some ⟨gq, ix * 4, none⟩) := depOf hdep 6 (by decide +kernel)
    clear hdep
    refine run_bare (by kernel_rfl) ?_
    unfold nrsFr
    obtain ⟨y0, y1, y2, y3⟩ := hV.1.cells hix; rw [hy.out] at y0 y1 y2 y3
    go_simp
    refine kfit (hK _ _ (Below.refl _ V) rfl) ?_
    first | (simp only [nrsFr, Act.put, List.setIfInBounds_toArray, List.set_cons_zero, List.set_cons_succ, h3, h5, h0, h4, e6]; done) | (simp only [nrsFr, Act.put, List.setIfInBounds_toArray, List.set_cons_zero, List.set_cons_succ, h3, h5, h0, h4, e6]; rfl)
  -- 8: slot 53 := Op.buildSlice 28 1 #[(0, t52)]
  refine And.intro ?_ ?_
  · clear HFIN hgl
    rw [← hf]; clear hf
    refine ⟨by decide +kernel, fun x v => by kernel_rfl, fun x V hV hdep K hK => ?_⟩
    have e7 : x 7 = .agg #[.string y.n, .int .i64 y.t.kind, .string y.t.name, .slice y.a y.t.kids.length y.c] := depOf hdep 7 (by decide +kernel)
    clear hdep
    refine run_bare (by kernel_rfl) ?_
    unfold nrsFr
    go_simp
    refine kfit (hK _ _ (below_a _ _) ⟨_, rfl, alloc_new V _⟩) ?_
    first | (simp only [nrsFr, Act.put, List.setIfInBounds_toArray, List.set_cons_zero, List.set_cons_succ, h3, h5, h0, h4, e7]; done) | (simp only [nrsFr, Act.put, List.setIfInBounds_toArray, List.set_cons_zero, List.set_cons_succ, h3, h5, h0, h4, e7]; rfl)
  -- 9: slot 54 := Op.call { builtin append, args := #[t48, t53], argTypes := #
  · clear HC
    rw [← hgl]; clear hgl
    refine ⟨by decide +kernel, by decide +kernel, ⟨_, Array.mem_of_getElem (i := 0) (h := by decide) rfl, by decide, rfl⟩, fun x V hV hall K hK => ?_⟩
    obtain ⟨va, vc, e3, d3⟩ : ∃ va vc, x 3 = .slice va k vc ∧ V.ownsRow wr.heap.size 55 4 (.slice va k vc) k (cellsP (ks.take k)) := hall 3 (by decide)
    obtain ⟨zb, e8, hz⟩ : ∃ zb, x 8 = .slice (some ⟨zb, 0, none⟩) 1 1 ∧ RowQ y zb V := hall 8 (by decide)
    clear hall
    obtain ⟨i0, hi, hz0, hz1, hz2⟩ := info_parts Tryz.infoPred
    have hsz : wr.heap.size ≤ V.heap.size := hV.2.2.size
    have HF := Lib.hid (fun g9 c9 w9 => HFIN.out x g9 c9 w9)
    clear HFIN
    unfold nrsFr at hK ⊢
    refine step_append_lies V (by kernel_rfl) (.tmp 48) (.tmp 53) 28 (by kernel_rfl) wr.heap.size 55 i0 (.agg #[.string ⟨#[]⟩, .int .i64 0, .string ⟨#[]⟩, .slice none 0 0]) 4 64 Tryz.underlying28 hi hz0 hz1 hz2 rfl (by decide) (.slice va k vc) k (cellsP (ks.take k)) e3 d3 ⟨zb, 0, none⟩ 1 1 (encP y) e8 rfl (World.news_of_block hz) (encP_one y) (by decide) (by unfold maxLen; omega) (by omega) hsz V.heap.size rfl ?_
    intro g9 c9 w9 hown9 hgr9 _ _
    have H := Lib.hid (HF.out g9 c9 w9 hown9 (hV.2.2.grown hgr9 hsz (fun j hj => (d3.lt j hj).1)))
    clear HF hown9 hgr9 hV d3 hz
    unfold nrsFr at H
    refine hK _ _ fun K2 hK2 => run_bare (by kernel_rfl) ?_
    clear hK
    go_simp
    refine kfit (hK2 _ _ H.out) ?_
    first | (simp only [Act.put, List.setIfInBounds_toArray, List.set_cons_zero, List.set_cons_succ, h0, h3, h4, h5, e3, e8]; done) | (simp only [Act.put, List.setIfInBounds_toArray, List.set_cons_zero, List.set_cons_succ, h0, h3, h4, h5, e3, e8]; rfl)
  -- 10: slot 6 := Op.assign t54
theorem nrs_here {wr : World} {B gq n k oc m lc ix : Nat} {oa : Option Addr} {ls ks : List PR} {y : PR} (hy : Hid (ls.getD ix noP = y)) (hix : ix < ls.length) (hi0 : (0 : Int) ≤ (ix : Int)) (him : (ix : Int) < (m : Int)) (hk0 : (0 : Int) ≤ (k : Int)) (hkn : (k : Int) ≤ (n : Int)) (hkp : (k : Int) ≤ (oc : Int)) (hnp : (n : Int) ≤ (oc : Int)) (hn6 : n ≤ 100) (hks : ks.length = n)
    (HC3 : ∀ V, RsI wr B gq ls ks oa n oc V → Calls Tryz.prog 48 #[.slice oa k oc] V fun e Y => (∃ va vc, e = .returned (.slice va k vc) ∧ Y.ownsRow wr.heap.size 55 4 (.slice va k vc) k (cellsP (ks.take k))) ∧ Below V.heap.size V Y)
    {Q : Exit → Act → World → Prop} {ops : Array Oper} {a : Act} (X : World) (hops : ops = nrsOps)
    (h3 : a.tmps.getD 3 undef = .slice oa n oc) (h5 : a.tmps.getD 5 undef = .int .i64 (k : Int)) (h0 : a.tmps.getD 0 undef = .slice (some ⟨gq, 0, none⟩) m lc) (h4 : a.tmps.getD 4 undef = .int .i64 (ix : Int))
    (ha : a = nrsFr (fun j => a.tmps.getD j undef) a.defers (fun i => a.tmps.getD (45 + i) undef)) (hS : RsI wr B gq ls ks oa n oc X.drew)
    (hfin : ∀ (x : Nat → Value) g9 c9 w9, w9.ownsRow wr.heap.size 55 4 (.slice (some ⟨g9, 0, none⟩) (k + 1) c9) (k + 1) (cellsP (ks.take k) ++ encP y) → Below wr.heap.size wr w9 → Q .normal (((nrsFr (fun j => a.tmps.getD j undef) a.defers x).put (some 54) (.slice (some ⟨g9, 0, none⟩) (k + 1) c9)).put (some 6) (.slice (some ⟨g9, 0, none⟩) (k + 1) c9)) w9) : (Code.region 9 ops true).wp Tryz.prog Q a X :=
  cast (congrArg (fun z => (Code.region 9 ops true).wp Tryz.prog Q z X) ha.symm) (nrs_region hy hix hi0 him hk0 hkn hkp hnp hn6 hks (b := fun j => a.tmps.getD j undef) (d := a.defers) h3 h5 h0 h4 HC3 hops _ X hS hfin)
end Go.Proofs.YtdidgddcgjpokaaGreatDoor
/- paideiaref.Preds of nothing. -/
namespace Go.Proofs.YtdidgddcgjpokaaGreatDoor
open Go.RowKit Go.Sort Go.Lib
attribute [local go_sem] Oper.semAt_some

set_option maxRecDepth 100000 in
set_option maxHeartbeats 4000000 in
theorem rPreds_nil (a : Option Addr) (cap : Nat) (w : World) :
    Calls Tryz.prog 48 #[.slice a 0 cap] w fun e w' => (∃ va vc, e = .returned (.slice va 0 vc) ∧ w'.ownsRow w.heap.size 55 4 (.slice va 0 vc) 0 []) ∧ Below w.heap.size w w' := by
  obtain ⟨i0, hi, hz0, hz1, hz2⟩ := info_parts Tryz.infoPred
  have hmk : ∀ W : World, (Instr.makeSlice 28 (.int .i64 0) (.int .i64 0)).run Tryz.prog W = .ok (.slice (some ⟨W.heap.size, 0, none⟩) 0 0) (W.alloc (.cells (madeCells #[.string ⟨#[]⟩, .int .i64 0, .string ⟨#[]⟩, .slice none 0 0] (0 * 4)) 55)) := fun W => by
    have hr := run_make (P := Tryz.prog) W 28 55 i0 _ Tryz.underlying28 hi hz0 .i64 .i64 0 0 (Int.le_refl _) (by omega) (by rw [hz2]; omega) (by omega)
    simp only [Int.toNat_zero, hz1] at hr
    exact hr
  have HO0 := Lib.hid (show (w.alloc (.cells (madeCells #[.string ⟨#[]⟩, .int .i64 0, .string ⟨#[]⟩, .slice none 0 0] (0 * 4)) 55)).ownsRow w.heap.size 55 4 (.slice (some ⟨w.heap.size, 0, none⟩) 0 0) 0 [] from World.ownsRow_made (base := w.heap.size) (e := 55) (size := 4) w _ 0 (Nat.le_refl _) (by unfold maxLen; omega) (by rw [size_madeCells]))
  have HB0 := Lib.hid ((Below.refl w.heap.size w).alloc (Nat.le_refl _) (.cells (madeCells #[.string ⟨#[]⟩, .int .i64 0, .string ⟨#[]⟩, .slice none 0 0] (0 * 4)) 55))
  generalize hW0 : w.alloc (.cells (madeCells #[.string ⟨#[]⟩, .int .i64 0, .string ⟨#[]⟩, .slice none 0 0] (0 * 4)) 55) = W0 at *
  have hmk0 := hmk w
  rw [hW0] at hmk0
  clear hmk hW0
  go_enter Tryz.func48, Tryz.ntmps48
  go_wp2
  go_loopw [3, 4] (fun vl vi wr => vi = .int .i64 0 ∧ Hid (wr.ownsRow w.heap.size 55 4 vl 0 []) ∧ Hid (Below w.heap.size w wr)) (fun _ _ _ => 0)
  case atStart => exact ⟨rfl, HO0, HB0⟩
  case round =>
    obtain ⟨rfl, hO, hB⟩ := hrel
    obtain ⟨va, vc, rfl⟩ := row_val hO.out
    go_wp2
    go_ret
    exact ⟨⟨va, vc, rfl, hO.out⟩, hB.out⟩
end Go.Proofs.YtdidgddcgjpokaaGreatDoor
/- paideiaref4.SortPreds. -/
namespace Go.Proofs.YtdidgddcgjpokaaGreatDoor
open Go.RowKit Go.Sort Go.Lib
attribute [local go_sem] Oper.semAt_some

theorem own_row {W : World} {B n oc : Nat} {oa : Option Addr} {ks : List PR} (h : W.ownsRow B 55 4 (.slice oa n oc) n (cellsP ks)) (hn : ks.length = n) (h0 : 0 < n) : ∃ g, oa = some ⟨g, 0, none⟩ ∧ n ≤ oc ∧ RowG 55 g ks W := by
  subst hn
  have hne : ks ≠ [] := fun e => by subst e; simp at h0
  have hc : ∃ g cap, Value.slice oa ks.length oc = .slice (some ⟨g, 0, none⟩) ks.length cap ∧ ks.length ≤ cap := by
    rcases h.2 with ⟨_, h1⟩ | ⟨g, cap, cur, e, _, _, hc, _⟩
    · exact absurd (List.length_eq_zero_iff.1 h1) hne
    · exact ⟨g, cap, e, hc⟩
  obtain ⟨g, cap, e1, hcap⟩ := hc
  rcases given_of_row h (fun e => absurd e hne) with ⟨e, _⟩ | ⟨_, g', cap', e, hr⟩
  · exact absurd e hne
  · rw [e1] at e
    cases e
    cases e1
    exact ⟨g, rfl, hcap, hr⟩
/-- The cells from k on. -/
theorem RowG.drop_news {g : Nat} {ls : List PR} {V : World} (h : RowG 55 g ls V) {k : Nat} (hk : k ≤ ls.length) : ∀ j u, (cellsP (ls.drop k))[j]? = some u → V.cell? ((⟨g, k * 4, none⟩ : Addr).add j) = some u := by
  intro j u hu
  have hl : (ls.drop k).length = ls.length - k := List.length_drop
  have hj : j < (ls.drop k).length * 4 := by have := (List.getElem?_eq_some_iff.1 hu).1; rwa [cellsP_len] at this
  have hadd : (⟨g, k * 4, none⟩ : Addr).add j = ⟨g, k * 4 + j, none⟩ := by unfold Addr.add; split <;> simp_all
  have hi : k + j / 4 < ls.length := by omega
  obtain ⟨x0, x1, x2, x3⟩ := h.cells hi
  rw [cellsP_get _ _ hj] at hu
  have e1 : (ls.drop k).getD (j / 4) noP = ls.getD (k + j / 4) noP := by simp [List.getD]
  rw [e1] at hu
  rw [hadd]
  obtain ⟨r, hr⟩ : ∃ r, j % 4 = r := ⟨_, rfl⟩
  rw [hr] at hu
  have : r = 0 ∨ r = 1 ∨ r = 2 ∨ r = 3 := by omega
  rcases this with rfl | rfl | rfl | rfl
  · rw [show (⟨g, k * 4 + j, none⟩ : Addr) = ⟨g, (k + j / 4) * 4, none⟩ by congr 1; omega, x0]; simpa [encP] using hu
  · rw [show (⟨g, k * 4 + j, none⟩ : Addr) = ⟨g, (k + j / 4) * 4 + 1, none⟩ by congr 1; omega, x1]; simpa [encP] using hu
  · rw [show (⟨g, k * 4 + j, none⟩ : Addr) = ⟨g, (k + j / 4) * 4 + 2, none⟩ by congr 1; omega, x2]; simpa [encP] using hu
  · rw [show (⟨g, k * 4 + j, none⟩ : Addr) = ⟨g, (k + j / 4) * 4 + 3, none⟩ by congr 1; omega, x3]; simpa [encP] using hu
/-- The part ahead, copied. -/
theorem rhead_any {gs k n oc : Nat} {ks : List PR} {W : World} (h : RowG 55 gs ks W) (hn : ks.length = n) (hk : k ≤ n) (h1 : n ≤ 100) : Calls Tryz.prog 48 #[.slice (some ⟨gs, 0, none⟩) k oc] W fun e Y => (∃ va vc, e = .returned (.slice va k vc) ∧ Y.ownsRow W.heap.size 55 4 (.slice va k vc) k (cellsP (ks.take k))) ∧ Below W.heap.size W Y := by
  have := rPreds_any gs 0 oc (ks.take k) W (by simp; omega) h.lt (fun i hi => by
    have hi' : i < k := by simp at hi; omega
    have hc := h.cells (i := i) (by omega)
    have e1 : (ks.take k).getD i noP = ks.getD i noP := by simp [List.getD, hi']
    rw [e1, Nat.zero_add]
    exact hc)
  rw [List.length_take, Nat.min_eq_left (by omega)] at this
  refine this.mono fun e w' hq => ?_
  obtain ⟨⟨v, rfl, ho⟩, hb2⟩ := hq
  obtain ⟨va, vc, rfl⟩ := row_val ho
  exact ⟨⟨va, vc, rfl, ho⟩, hb2⟩
/-- Nothing is appended. -/
theorem wpList_append_zero {P : Program} {w : World} {ops : Array Oper} {rest : List Oper} {o : Oper} {a : Act} {Q : Exit → Act → World → Prop} (hgd : o.guard = none) (s x : Operand) (t : TypeId)
    (ho : o.op = .call { callee := .builtin .append, args := #[s, x], argTypes := #[t, t] }) (e : TypeId) (i : TypeInfo) (ht : P.underlying t = some (.slice e)) (hi : P.info? e = some i)
    (b : Option Addr) (l c : Nat) (hle : l ≤ c) (ax : Option Addr) (cx : Nat) (hs : a.eval s = .slice b l c) (hx : a.eval x = .slice ax 0 cx)
    (h : wpList P ops Q rest (a.put o.dst (.slice b l c)) w) : wpList P ops Q (o :: rest) a w := by
  refine wpList_plain hgd fun K hK => ?_
  have src : Go.Src P i.size t (.slice ax 0 cx) 0 [] w := by
    cases ax with
    | none => exact Go.Src.ofNil w ht cx
    | some ad => exact Go.Src.ofSlice w ht ad 0 cx [] (by simp) (fun j u hu => by simp at hu) (fun u hu => by simp at hu)
  have hr := run_append_nothing (P := P) w t t o.type e i ht hi b l c hle (.slice ax 0 cx) src
  unfold Oper.wp execOp
  simp only [ho, resolve, invoke, builtin, Sem.run_bind, Sem.run_pure, Result.andThen_ok, List.map_toArray, List.map_cons, List.map_nil, hs, hx, hr]
  exact hK _ _ h
/-- What the rounds keep. -/
def RsO (w : World) (ls : List PR) (i : Nat) (oa : Option Addr) (n oc : Nat) (ks : List PR) (Y : World) : Prop :=
  (ks.length = n ∧ ks.Pairwise (fun a b => cmpR a b < 0) ∧ (∀ q : Pr, q ∈ ks.map prOf ↔ q ∈ (ls.take i).map prOf) ∧ ∀ x ∈ ks, x ∈ ls) ∧ Y.ownsRow w.heap.size 55 4 (.slice oa n oc) n (cellsP ks) ∧ Below w.heap.size w Y
set_option maxRecDepth 100000 in
set_option maxHeartbeats 8000000 in
theorem rsort_any (ls : List PR) (la : Option Addr) (lc : Nat) (w : World) (hP : PV ls (.slice la ls.length lc) w) (hf : ∀ x ∈ ls, Fits x.t ∧ tsize x.t ≤ 1000000000) (hl : ls.length ≤ 100) :
    Calls Tryz.prog 20 #[.slice la ls.length lc] w fun e w' => (∃ ks oa oc, e = .returned (.slice oa ks.length oc) ∧ RsO w ls ls.length oa ks.length oc ks w') ∧ Below w.heap.size w w' := by
  have HP := Lib.hid hP
  have HF := Lib.hid hf
  clear hP hf
  obtain ⟨m, hm⟩ : ∃ m, ls.length = m := ⟨_, rfl⟩
  have HM := Lib.hid hm
  rw [hm] at HP hl ⊢
  clear hm
  go_enter Tryz.func20, Tryz.ntmps20
  go_wp2_with fail
  go_loopw [3, 4] (fun vo vi Y => ∃ (i n oc : Nat) (oa : Option Addr) (ks : List PR), i ≤ m ∧ vi = .int .i64 i ∧ vo = .slice oa n oc ∧ n ≤ i ∧ Hid (RsO w ls i oa n oc ks Y)) (fun _ vi _ => m - (intOf vi).toNat)
  case atStart => exact ⟨0, 0, 0, none, [], Nat.zero_le _, rfl, rfl, Nat.le_refl _, Lib.hid ⟨⟨rfl, List.Pairwise.nil, fun q => by simp, fun _ h => nomatch h⟩, World.ownsRow_nil _ _ _ _, Below.refl _ _⟩⟩
  case round =>
    obtain ⟨i, n, oc, oa, ks, hi', rfl, rfl, hni, hI⟩ := hrel
    by_cases hlt : i < m
    · have hltI : (i : Int) < (m : Int) := by omega
      have hi0 : (0 : Int) ≤ (i : Int) := by omega
      have hiL : i < ls.length := by rw [HM.out]; exact hlt
      have hPw := HP.out.below hI.out.2.2
      rw [← HM.out] at hPw
      obtain ⟨gq, rfl, hmc, hRF⟩ := hPw.row (by omega)
      rw [HM.out] at hmc
      have hmem := getD_memR hiL
      have HTy := Lib.hid (hPw.1 _ hmem)
      have HFy := Lib.hid (HF.out _ hmem)
      have HTk := Lib.hid hPw.1
      have HRF := Lib.hid hRF
      have hkl : ks.length = n := hI.out.1.1
      obtain ⟨y, hy⟩ : ∃ y, ls.getD i noP = y := ⟨_, rfl⟩
      rw [hy] at HTy HFy
      have HY := Lib.hid hy
      clear hPw hRF hmem hy
      have HKl := Lib.hid hkl
      clear hkl
      go_wp2_with fail
      go_loopw [5] (fun vk Y => ∃ (k : Nat), k ≤ n ∧ vk = .int .i64 k ∧ Hid (∀ j, j < k → cmpR (ks.getD j noP) y < 0) ∧ Hid (Below wr.heap.size wr Y)) (fun vk _ => n - (intOf vk).toNat)
      case atStart => exact ⟨0, Nat.zero_le _, rfl, Lib.hid (fun _ h => absurd h (Nat.not_lt_zero _)), Lib.hid (Below.refl _ _)⟩
      case round =>
        rename World => W2
        obtain ⟨k, hk', rfl, hL, hB⟩ := hrel
        have hk0 : (0 : Int) ≤ (k : Int) := by omega
        by_cases hkn : k < n
        · have hkI : (k : Int) < (n : Int) := by omega
          obtain ⟨gs, rfl, hno, hRG⟩ := own_row (own_below hI.out.2.1 hB.out) HKl.out (by omega)
          have hzm := getD_memR (show k < ks.length by rw [HKl.out]; exact hkn)
          have hzl := hI.out.1.2.2.2 _ hzm
          obtain ⟨x0, x1, x2, x3⟩ := hRG.cells (i := k) (by rw [HKl.out]; exact hkn)
          obtain ⟨y0, y1, y2, y3⟩ := (HRF.out.below hB.out).cells hiL
          rw [HY.out] at y0 y1 y2 y3
          obtain ⟨z, hz⟩ : ∃ z, ks.getD k noP = z := ⟨_, rfl⟩
          rw [hz] at x0 x1 x2 x3 hzl hzm
          have HZ := Lib.hid hz
          have X0 := cell_regrown x0; have X1 := cell_regrown x1; have X2 := cell_regrown x2; have X3 := cell_regrown x3
          have Y0 := cell_regrown y0; have Y1 := cell_regrown y1; have Y2 := cell_regrown y2; have Y3 := cell_regrown y3
          have HC := Lib.hid (fun dd os => Calls.regrown_of (before_any (prOf z) (prOf y) (HF.out _ hzl).2 z.a y.a z.c y.c _ ((HTk.out _ hzl).keep (KeepT.of_below (hB.out.trans ((below_regrown W2 dd os).mono hB.out.size)))) (HTy.out.keep (KeepT.of_below (hB.out.trans ((below_regrown W2 dd os).mono hB.out.size))))))
          have HC2 := Lib.hid (fun dd os => Calls.regrown_of (samePred_any (prOf z) (prOf y) (HF.out _ hzl).1 z.a y.a z.c y.c _ ((HTk.out _ hzl).keep (KeepT.of_below (hB.out.trans ((below_regrown W2 dd os).mono hB.out.size)))) (HTy.out.keep (KeepT.of_below (hB.out.trans ((below_regrown W2 dd os).mono hB.out.size))))))
          have HZm := Lib.hid hzm
          clear x0 x1 x2 x3 y0 y1 y2 y3 hRG hzl hzm hz
          have HR := Lib.hid (show befI (prOf z) (prOf y) = cmpR z y from rfl)
          obtain ⟨r, hr⟩ : ∃ r, befI (prOf z) (prOf y) = r := ⟨_, rfl⟩
          rw [hr] at HC HR
          simp only [prV, prOf] at HC
          clear hr
          have hH := HC.out
          by_cases hlv : r < 0
          · go_wp2_with fail
            refine wp_region_quiet_below (by kernel_rfl) (by kernel_rfl) ?_
            repeat (quiet_step (first | exact hH _ _ | (go_at_fn 47; exact hH _ _)))
            refine wpQuiet_nil ?_
            intro _ hw'
            obtain ⟨⟨dq, osq⟩, hw''⟩ := hw'
            subst hw''
            have HB5 := Lib.hid (hB.out.trans ((below_regrown W2 dq osq).mono hB.out.size))
            clear X0 X1 X2 X3 Y0 Y1 Y2 Y3 hH HC
            generalize grow (redrawn W2 dq) osq = W5 at *
            go_wp2_with fail
            go_roundw
            case rel => exact ⟨k + 1, by omega, by go_num, Lib.hid (fun j hj => by
              by_cases e : j = k
              · subst e; rw [HZ.out, ← HR.out]; exact hlv
              · exact hL.out j (by omega)), HB5⟩
            case measure => simp [intOf]; omega
          ·
            go_wp2_with fail
            refine wp_region_quiet_below (by kernel_rfl) (by kernel_rfl) ?_
            repeat (quiet_step (first | exact hH _ _ | (go_at_fn 47; exact hH _ _)))
            refine wpQuiet_nil ?_
            intro _ hw'
            obtain ⟨⟨dq, osq⟩, hw''⟩ := hw'
            subst hw''
            have HB5 := Lib.hid (hB.out.trans ((below_regrown W2 dq osq).mono hB.out.size))
            clear X0 X1 X2 X3 Y0 Y1 Y2 Y3 hH
            generalize grow (redrawn W2 dq) osq = W5 at *
            clear HC HC2 hB
            obtain ⟨_, e5, _, hRG5⟩ := own_row (own_below hI.out.2.1 HB5.out) HKl.out (by omega)
            cases e5
            obtain ⟨x0, x1, x2, x3⟩ := hRG5.cells (i := k) (by rw [HKl.out]; exact hkn)
            obtain ⟨y0, y1, y2, y3⟩ := (HRF.out.below HB5.out).cells hiL
            rw [HY.out] at y0 y1 y2 y3
            rw [HZ.out] at x0 x1 x2 x3
            have hzl := hI.out.1.2.2.2 _ HZm.out
            have X0 := cell_regrown x0; have X1 := cell_regrown x1; have X2 := cell_regrown x2; have X3 := cell_regrown x3
            have Y0 := cell_regrown y0; have Y1 := cell_regrown y1; have Y2 := cell_regrown y2; have Y3 := cell_regrown y3
            have HC2 := Lib.hid (fun dd os => Calls.regrown_of (samePred_any (prOf z) (prOf y) (HF.out _ hzl).1 z.a y.a z.c y.c _ ((HTk.out _ hzl).keep (KeepT.of_below (HB5.out.trans ((below_regrown W5 dd os).mono HB5.out.size)))) (HTy.out.keep (KeepT.of_below (HB5.out.trans ((below_regrown W5 dd os).mono HB5.out.size))))))
            clear x0 x1 x2 x3 y0 y1 y2 y3 hRG5 hzl
            obtain ⟨q, hq⟩ : ∃ q, eqB (prOf z) (prOf y) = q := ⟨_, rfl⟩
            rw [hq] at HC2
            simp only [prV, prOf] at HC2
            have HQ := Lib.hid hq
            clear hq
            have hH2 := HC2.out
            cases q with
            | true =>
              go_wp2_with fail
              refine wp_region_quiet_below (by kernel_rfl) (by kernel_rfl) ?_
              repeat (quiet_step (first | exact hH2 _ _ | (go_at_fn 42; exact hH2 _ _)))
              refine wpQuiet_nil ?_
              intro _ hw'
              obtain ⟨⟨dq, osq⟩, hw''⟩ := hw'
              subst hw''
              have HB7 := Lib.hid (HB5.out.trans ((below_regrown W5 dq osq).mono HB5.out.size))
              clear X0 X1 X2 X3 Y0 Y1 Y2 Y3 hH2
              generalize grow (redrawn W5 dq) osq = W7 at *
              clear HC2 HB5
              have hzy : prOf z = prOf y := eqB_iff.1 HQ.out
              have HE := Lib.hid (show RsO w ls (i + 1) (some ⟨gs, 0, none⟩) n oc ks W7 from ⟨⟨HKl.out, hI.out.1.2.1, fun q => by
                rw [hI.out.1.2.2.1 q, List.take_succ_eq_append_getElem hiL, List.map_append, List.mem_append]
                have e1 : ls[i] = y := by rw [← HY.out]; simp [List.getD, hiL]
                rw [e1]
                constructor
                · exact .inl
                · rintro (h | h)
                  · exact h
                  · simp at h
                    rw [h, ← hzy]
                    exact (hI.out.1.2.2.1 _).1 (List.mem_map.2 ⟨z, HZm.out, rfl⟩), hI.out.1.2.2.2⟩, own_below hI.out.2.1 HB7.out, hI.out.2.2.trans (HB7.out.mono hI.out.2.2.size)⟩)
              clear hzy
              go_wp2_with fail
              go_roundw
              case rel => exact ⟨i + 1, n, oc, _, ks, by omega, by go_num, rfl, by omega, HE⟩
              case measure => simp [intOf]; omega
            | false =>
              go_wp2_with fail
              refine wp_region_quiet_below (by kernel_rfl) (by kernel_rfl) ?_
              repeat (quiet_step (first | exact hH2 _ _ | (go_at_fn 42; exact hH2 _ _)))
              refine wpQuiet_nil ?_
              intro _ hw'
              obtain ⟨⟨dq, osq⟩, hw''⟩ := hw'
              subst hw''
              have HB7 := Lib.hid (HB5.out.trans ((below_regrown W5 dq osq).mono HB5.out.size))
              clear X0 X1 X2 X3 Y0 Y1 Y2 Y3 hH2
              generalize grow (redrawn W5 dq) osq = W7 at *
              clear HC2 HB5
              have hne : ¬ prOf z = prOf y := fun e => by have := eqB_true e; rw [HQ.out] at this; exact absurd this (by decide)
              have hpos : 0 < cmpR z y := by
                rcases Int.lt_or_eq_of_le (show (0 : Int) ≤ cmpR z y by rw [← HR.out]; omega) with h | h
                · exact h
                · obtain ⟨e1, e2⟩ := (cmpR_zero z y).1 h.symm
                  exact absurd (by unfold prOf; rw [e1, e2]) hne
              have HPos := Lib.hid hpos
              have hno' : (n : Int) ≤ (oc : Int) := by omega
              have hknI : (k : Int) ≤ (n : Int) := by omega
              have hkoI : (k : Int) ≤ (oc : Int) := by omega
              clear hne hpos
              go_wp2_with fail
              refine nrs_here (wr := W7) (B := w.heap.size) (gq := gq) (n := n) (k := k) (oc := oc) (m := m) (lc := lc) (ix := i) (oa := some ⟨gs, 0, none⟩) (ls := ls) (ks := ks) (y := y) HY hiL hi0 hltI hk0 hknI hkoI hno' (by omega) HKl.out
                (fun V h => by
                  obtain ⟨g', e', _, hr'⟩ := own_row h.2.1 HKl.out (by omega)
                  cases e'
                  exact (rhead_any hr' HKl.out (by omega) (by omega)).mono fun e Y hq => ⟨by obtain ⟨va, vc, e1, ho⟩ := hq.1; exact ⟨va, vc, e1, own_lower ho h.2.2.size⟩, hq.2⟩)
                _ (by kernel_rfl) (by kernel_rfl) (by kernel_rfl) (by kernel_rfl) (by kernel_rfl) (by kernel_rfl) ⟨(HRF.out.below HB7.out).below (below_d _), own_below (own_below hI.out.2.1 HB7.out) (below_d _), below_d _⟩ ?_
              intro x g9 c9 w9 ho9 hb9
              have hb9' := HB7.out.trans (hb9.mono HB7.out.size)
              obtain ⟨g', e', _, hr9⟩ := own_row (own_below hI.out.2.1 hb9') HKl.out (by omega)
              cases e'
              have hnews := hr9.drop_news (k := k) (by rw [HKl.out]; omega)
              have hok : ¬ oc = k := by omega
              have hok2 : ¬ k = oc := by omega
              have HO9 := Lib.hid ho9
              have HB9 := Lib.hid hb9
              have HN9 := Lib.hid hnews
              obtain ⟨i0, hi, hz0, hz1, hz2⟩ := info_parts Tryz.infoPred
              have hs9 : W7.heap.size ≤ w9.heap.size := hb9.size
              clear ho9 hb9 hb9' hr9 hnews
              simp only [nrsFr, Act.put]
              simp only [Array.getD_eq_getD_getElem?, List.getElem?_toArray, List.getElem?_cons_zero, List.getElem?_cons_succ, Option.getD_some, List.setIfInBounds_toArray, List.set_cons_zero, List.set_cons_succ]
              go_wp2_with (at_builtin; refine wpList_append_lies _ rfl _ _ 28 rfl W7.heap.size 55 i0 (.agg #[.string ⟨#[]⟩, .int .i64 0, .string ⟨#[]⟩, .slice none 0 0]) 4 64 Tryz.underlying28 hi hz0 hz1 hz2 rfl (by decide) _ _ _ rfl HO9.out ⟨gs, k * 4, none⟩ (n - k) (oc - k) (cellsP (ks.drop k)) rfl (by rw [cellsP_len, List.length_drop, HKl.out]) HN9.out (cellsP_one _) (by omega) ?p3 ?p4 ?p5 _ rfl ?_)
              case p3 => unfold maxLen; omega
              case p4 => omega
              case p5 => exact hs9
              intro g10 c10 w10 hown10 hgr10 _ _
              have HE := Lib.hid (show RsO w ls (i + 1) (some ⟨g10, 0, none⟩) (n + 1) c10 (ks.take k ++ y :: ks.drop k) w10 from by
                refine ⟨⟨?_, ins_strict hI.out.1.2.1 (by rw [HKl.out]; omega) hL.out (fun _ => by rw [HZ.out]; exact HPos.out), fun q => ?_, fun x hx => ?_⟩, ?_, ?_⟩
                · rw [List.length_append, List.length_take, List.length_cons, List.length_drop, HKl.out]; omega
                · have e1 : ls[i] = y := by rw [← HY.out]; simp [List.getD, hiL]
                  rw [ins_mem q, hI.out.1.2.2.1 q, List.take_succ_eq_append_getElem hiL, List.map_append, List.mem_append, e1]
                  simp
                · rcases List.mem_append.1 hx with hx | hx
                  · exact hI.out.1.2.2.2 x (List.mem_of_mem_take hx)
                  · rcases List.mem_cons.1 hx with rfl | hx
                    · rw [← HY.out]; exact getD_memR hiL
                    · exact hI.out.1.2.2.2 x (List.mem_of_mem_drop hx)
                · have e2 : cellsP (ks.take k) ++ (encP y ++ cellsP (ks.drop k)) = cellsP (ks.take k ++ y :: ks.drop k) := by simp [cellsP]
                  rw [e2, show k + 1 + (n - k) = n + 1 by omega] at hown10
                  exact own_lower hown10 (Nat.le_trans hI.out.2.2.size HB7.out.size)
                · exact hI.out.2.2.trans ((HB7.out.trans ((HB9.out.grown hgr10 hs9 (fun j hj => (HO9.out.lt j hj).1)).mono HB7.out.size)).mono hI.out.2.2.size))
              have hlen : k + 1 + (n - k) = n + 1 := by omega
              rw [hlen]
              clear hown10 hgr10 HO9 HB9 HN9
              go_wp2_with fail
              go_roundw
              case rel => exact ⟨i + 1, n + 1, c10, some ⟨g10, 0, none⟩, ks.take k ++ y :: ks.drop k, by omega, by go_num, rfl, by omega, HE⟩
              case measure => simp [intOf]; omega
        · obtain rfl : k = n := by omega
          have hd : decide ((k : Int) < (k : Int)) = false := decide_eq_false (by omega)
          go_wp2_with fail
          go_region
          go_wp2_with fail
          go_region
          have hkoI : (k : Int) ≤ (oc : Int) := by
            rcases hI.out.2.1.2 with ⟨e, h1⟩ | ⟨g, cap, cur, e, _, _, hc, _⟩
            · cases e; omega
            · cases e; omega
          have hpre : ∀ V, RsI wr w.heap.size gq ls ks oa k oc V → Calls Tryz.prog 48 #[.slice oa k oc] V fun e Y => (∃ va vc, e = .returned (.slice va k vc) ∧ Y.ownsRow wr.heap.size 55 4 (.slice va k vc) k (cellsP (ks.take k))) ∧ Below V.heap.size V Y := fun V h => by
            by_cases h0 : k = 0
            · subst h0
              rw [List.take_zero]
              exact (rPreds_nil oa oc V).mono fun e Y hq => ⟨by obtain ⟨va, vc, e1, ho⟩ := hq.1; exact ⟨va, vc, e1, own_lower ho h.2.2.size⟩, hq.2⟩
            · obtain ⟨g', e', _, hr'⟩ := own_row h.2.1 HKl.out (by omega)
              cases e'
              exact (rhead_any hr' HKl.out (by omega) (by omega)).mono fun e Y hq => ⟨by obtain ⟨va, vc, e1, ho⟩ := hq.1; exact ⟨va, vc, e1, own_lower ho h.2.2.size⟩, hq.2⟩
          have HPre := Lib.hid hpre
          have hd3 : Below wr.heap.size wr W2.drew.drew.drew := hB.out.trans ((((Below.refl _ W2).drew).drew).drew.mono hB.out.size)
          clear hpre
          go_wp2_with fail
          refine nrs_here (wr := wr) (B := w.heap.size) (gq := gq) (n := k) (k := k) (oc := oc) (m := m) (lc := lc) (ix := i) (oa := oa) (ls := ls) (ks := ks) (y := y) HY hiL hi0 hltI hk0 (Int.le_refl _) hkoI hkoI (by omega) HKl.out
            HPre.out
            _ (by kernel_rfl) (by kernel_rfl) (by kernel_rfl) (by kernel_rfl) (by kernel_rfl) (by kernel_rfl) ⟨HRF.out.below hd3, own_below hI.out.2.1 hd3, hd3⟩ ?_
          intro x g9 c9 w9 ho9 hb9
          have hc9 : k + 1 ≤ c9 := by
            rcases ho9.2 with ⟨e, h1⟩ | ⟨g, cap, cur, e, _, _, hc, _⟩
            · exact absurd h1 (by omega)
            · cases e; exact hc
          have HE := Lib.hid (show RsO w ls (i + 1) (some ⟨g9, 0, none⟩) (k + 1) c9 (ks ++ [y]) w9 from by
            have hin := ins_strict (k := k) (y := y) hI.out.1.2.1 (by rw [HKl.out]; exact Nat.le_refl _) hL.out (fun h => absurd h (by rw [HKl.out]; omega))
            have et : ks.take k = ks := by rw [← HKl.out, List.take_length]
            have ed : ks.drop k = [] := by rw [← HKl.out, List.drop_length]
            rw [et, ed] at hin
            have e1 : ls[i] = y := by rw [← HY.out]; simp [List.getD, hiL]
            refine ⟨⟨by rw [List.length_append, HKl.out]; rfl, hin, fun q => ?_, fun x hx => ?_⟩, ?_, ?_⟩
            · rw [List.map_append, List.mem_append, hI.out.1.2.2.1 q, List.take_succ_eq_append_getElem hiL, List.map_append, List.mem_append, e1]
            · rcases List.mem_append.1 hx with hx | hx
              · exact hI.out.1.2.2.2 x hx
              · rw [List.mem_singleton.1 hx, ← HY.out]; exact getD_memR hiL
            · have e2 : cellsP (ks.take k) ++ encP y = cellsP (ks ++ [y]) := by rw [et, cellsP_snoc]
              rw [e2] at ho9
              exact own_lower ho9 hI.out.2.2.size
            · exact hI.out.2.2.trans (hb9.mono hI.out.2.2.size))
          obtain ⟨i0, hi, hz0, hz1, hz2⟩ := info_parts Tryz.infoPred
          clear ho9 hb9 hd3
          simp only [nrsFr, Act.put]
          simp only [Array.getD_eq_getD_getElem?, List.getElem?_toArray, List.getElem?_cons_zero, List.getElem?_cons_succ, Option.getD_some, List.setIfInBounds_toArray, List.set_cons_zero, List.set_cons_succ]
          cases oa with
          | none =>
            obtain rfl : k = 0 := by
              rcases hI.out.2.1.2 with ⟨e, h1⟩ | ⟨g, cap, cur, e, _, _, hc, _⟩
              · exact h1
              · cases e
            go_wp2_with (at_builtin; refine wpList_append_zero rfl _ _ 28 rfl 55 i0 Tryz.underlying28 hi _ _ _ hc9 _ _ rfl rfl ?_)
            go_wp2_with fail
            go_roundw
            case rel => exact ⟨i + 1, 0 + 1, c9, some ⟨g9, 0, none⟩, ks ++ [y], by omega, by go_num, rfl, by omega, HE⟩
            case measure => simp [intOf]; omega
          | some ad =>
            go_wp2_with (at_builtin; refine wpList_append_zero rfl _ _ 28 rfl 55 i0 Tryz.underlying28 hi _ _ _ hc9 _ _ rfl rfl ?_)
            go_wp2_with fail
            go_roundw
            case rel => exact ⟨i + 1, k + 1, c9, some ⟨g9, 0, none⟩, ks ++ [y], by omega, by go_num, rfl, by omega, HE⟩
            case measure => simp [intOf]; omega
    · obtain rfl : i = m := by omega
      obtain rfl : ks.length = n := hI.out.1.1
      go_wp2
      go_ret
      exact ⟨⟨ks, oa, oc, rfl, hI.out⟩, hI.out.2.2⟩
end Go.Proofs.YtdidgddcgjpokaaGreatDoor
/- SchemeFresh: what its statements keep. -/
namespace Go.Proofs.YtdidgddcgjpokaaGreatDoor
open Go.RowKit Go.Sort Go.Lib
attribute [local go_sem] Oper.semAt_some

/-- Block g holds the texts l. -/
def TRow (g : Nat) (l : List ByteArray) (V : World) : Prop := ∃ cs fz, V.heap[g]? = some (.cells cs 9 fz) ∧ ∀ i (h : i < l.length), cs[i]? = some (.string l[i])
theorem TRow.lt {g : Nat} {l : List ByteArray} {V : World} (h : TRow g l V) : g < V.heap.size := by obtain ⟨_, _, h, _⟩ := h; exact (Array.getElem?_eq_some_iff.1 h).1
theorem TRow.below {g : Nat} {l : List ByteArray} {V Y : World} (h : TRow g l V) (hb : Below V.heap.size V Y) : TRow g l Y := by
  have hl := h.lt
  obtain ⟨cs, fz, h1, h2⟩ := h; exact ⟨cs, fz, (hb.block g hl).trans h1, h2⟩
theorem TRow.cell {g : Nat} {l : List ByteArray} {V : World} (h : TRow g l V) {i : Nat} (hi : i < l.length) : V.cell? ⟨g, i, none⟩ = some (.string (l.getD i ⟨#[]⟩)) := by
  obtain ⟨cs, fz, h1, h2⟩ := h
  rw [Lib.cell_of_heap h1, show l.getD i ⟨#[]⟩ = l[i] by simp [List.getD, hi]]
  exact h2 i hi
theorem TRow.of {a : Option Addr} {n c : Nat} {l : List ByteArray} {V : World} (h : TextsAt V (.slice a n c) l) (h0 : 0 < n) : ∃ g, a = some ⟨g, 0, none⟩ ∧ n ≤ c ∧ TRow g l V := by
  obtain ⟨a', c', e, h⟩ := h
  cases e
  rcases h with h | ⟨g, rfl, hc, cs, fz, hg, hr⟩
  · rw [h] at h0; exact absurd h0 (Nat.lt_irrefl _)
  · exact ⟨g, rfl, hc, cs, fz, hg, hr⟩
/-- The row of one pair that is to be appended. -/
def RowY (x : PR) (zb : Nat) (V : World) : Prop := V.heap[zb]? = some (.cells #[.string x.n, .int .i64 x.t.kind, .string x.t.name, .slice x.a x.t.kids.length x.c] 53 (0, 0))
theorem RowY.below {x : PR} {zb : Nat} {V Y : World} (h : RowY x zb V) (hb : Below V.heap.size V Y) : RowY x zb Y := (hb.block zb (Array.getElem?_eq_some_iff.1 h).1).trans h
theorem varX_any (n : ByteArray) (w : World) : Calls Tryz.prog 25 #[.string n] w fun e w' => e = .returned (.agg #[.int .i64 (T.var n).kind, .string (T.var n).name, .slice none (T.var n).kids.length 0]) ∧ Below w.heap.size w w' := by
  go_enter Tryz.func25, Tryz.ntmps25
  go_wp2
  refine bodyPost_ret (v := .agg #[.int .i64 (T.var n).kind, .string (T.var n).name, .slice none (T.var n).kids.length 0]) (by simp [results, Tryz.results25, go_sem, T.kind, T.name, T.kids]) rfl ⟨rfl, (Below.refl _ w).alloc (Nat.le_refl _) _⟩
end Go.Proofs.YtdidgddcgjpokaaGreatDoor
/- SchemeFree: what its last statement keeps. -/
namespace Go.Proofs.YtdidgddcgjpokaaGreatDoor
open Go.RowKit Go.Sort Go.Lib
attribute [local go_sem] Oper.semAt_some

section
variable {w X Y : World} {b6 b8 b9 : Nat} {t u : T} {pa : Option Addr} {ca : Nat} {xa : Option Addr} {xc : Nat} {xs : List ByteArray} {xx : Option Addr} {xk : Nat} {ta : Option Addr} {tc : Nat} {za : Option Addr} {zc : Nat} {zn : List ByteArray} {zp : Option Addr} {zq : Nat} {ua : Option Addr} {uc : Nat}
end
end Go.Proofs.YtdidgddcgjpokaaGreatDoor
/- scheme.Same: two schemes, each put into its plain form in its own block. -/
namespace Go.Proofs.YtdidgddcgjpokaaGreatDoor
open Go.RowKit Go.Sort Go.Lib
attribute [local go_sem] Oper.semAt_some

/-- All but blocks of schemes stays. -/
def KeepO (V Y : World) : Prop := ∀ (k : Nat) (cs : Array Value) (T : TypeId) (fz : Nat × Nat), T ≠ 33 → V.heap[k]? = some (.cells cs T fz) → Y.heap[k]? = some (.cells cs T fz)
theorem KeepO.of_below {V Y : World} (h : Below V.heap.size V Y) : KeepO V Y := fun k _ _ _ _ hk => (h.block k (Array.getElem?_eq_some_iff.1 hk).1).trans hk
def SB (b : Nat) (V : World) : Prop := ∃ cs, V.heap[b]? = some (.cells cs 33 (0, 0))
theorem SB.below {b : Nat} {V Y : World} (h : SB b V) (hb : Below V.heap.size V Y) : SB b Y := by obtain ⟨cs, h⟩ := h; exact ⟨cs, (hb.block b (Array.getElem?_eq_some_iff.1 h).1).trans h⟩
theorem KeepO.of_set5 {b : Nat} {V : World} (h : SB b V) (v0 v1 v2 v3 v4 : Value) : KeepO V (set5 V b v0 v1 v2 v3 v4) := fun k cs T fz hT hk => (set5_other _ _ _ _ _ _ _ (fun e => by
  subst e; obtain ⟨c, h⟩ := h; rw [h] at hk; simp at hk; exact hT hk.2.1.symm)).trans hk
theorem SB.set5 {b k : Nat} {V : World} (h : SB k V) (hne : k ≠ b) (v0 v1 v2 v3 v4 : Value) : SB k (set5 V b v0 v1 v2 v3 v4) := by obtain ⟨cs, h⟩ := h; exact ⟨cs, (set5_other _ _ _ _ _ _ _ hne).trans h⟩
/-- What is kept all through. -/
def SmS (w : World) (b2 b3 : Nat) (D : World → Prop) (V : World) : Prop := D V ∧ SB b2 V ∧ SB b3 V ∧ Below w.heap.size w V
structure SmK (b2 b3 : Nat) (A B : Array Value) (L : Nat → Bool) (x : Nat → Value) (V : World) : Prop where
  m0 : L 4 = false → V.heap[b2]? = some (.cells A 33 (0, 0))
  m1 : L 4 = true → ∃ cs, x 1 = .agg cs ∧ V.heap[b2]? = some (.cells cs 33 (0, 0))
  n0 : L 5 = false → V.heap[b3]? = some (.cells B 33 (0, 0))
  n1 : L 5 = true → ∃ cs, x 3 = .agg cs ∧ V.heap[b3]? = some (.cells cs 33 (0, 0))
  c4 : L 4 = true → L 1 = true
  c1 : L 1 = true → L 0 = true
  c5 : L 5 = true → L 3 = true
  c3 : L 3 = true → L 2 = true
section
variable {V Y : World} {b2 b3 : Nat} {A B : Array Value} {L : Nat → Bool} {x : Nat → Value}
theorem SmK.start (h2 : V.heap[b2]? = some (.cells A 33 (0, 0))) (h3 : V.heap[b3]? = some (.cells B 33 (0, 0))) : SmK b2 b3 A B (fun _ => false) x V :=
  ⟨fun _ => h2, (fun e => nomatch e), fun _ => h3, (fun e => nomatch e), (fun e => nomatch e), (fun e => nomatch e), (fun e => nomatch e), (fun e => nomatch e)⟩
theorem updB_mono (L : Nat → Bool) (i : Nat) : ∀ j, L j = true → updB L i j = true := fun j hj => by
  by_cases e : j = i
  · subst e; exact updB_same _ _
  · rw [updB_other L e]; exact hj
/-- An operation that leaves both blocks. -/
theorem SmK.step (h : SmK b2 b3 A B L x V) {i : Nat} (hi4 : i ≠ 4) (hi5 : i ≠ 5) (hLi : L i = false) (d1 : i = 1 → L 0 = true) (d3 : i = 3 → L 2 = true) (e2 : ∀ o, V.heap[b2]? = some o → Y.heap[b2]? = some o) (e3 : ∀ o, V.heap[b3]? = some o → Y.heap[b3]? = some o) (v : Value) : SmK b2 b3 A B (updB L i) (upd x i v) Y := by
  have e4 : updB L i 4 = L 4 := updB_other L (Ne.symm hi4)
  have e5 : updB L i 5 = L 5 := updB_other L (Ne.symm hi5)
  refine ⟨fun q => e2 _ (h.m0 (by rwa [e4] at q)), fun q => ?_, fun q => e3 _ (h.n0 (by rwa [e5] at q)), fun q => ?_, fun q => ?_, fun q => ?_, fun q => ?_, fun q => ?_⟩
  · rw [e4] at q
    obtain ⟨cs, k1, k2⟩ := h.m1 q
    have hne : (1 : Nat) ≠ i := fun e => by have := h.c4 q; rw [e, hLi] at this; cases this
    exact ⟨cs, by rw [upd_other x v hne]; exact k1, e2 _ k2⟩
  · rw [e5] at q
    obtain ⟨cs, k1, k2⟩ := h.n1 q
    have hne : (3 : Nat) ≠ i := fun e => by have := h.c5 q; rw [e, hLi] at this; cases this
    exact ⟨cs, by rw [upd_other x v hne]; exact k1, e3 _ k2⟩
  · rw [e4] at q; exact updB_mono L i 1 (h.c4 q)
  · by_cases e : i = 1
    · exact updB_mono L i 0 (d1 e)
    · rw [updB_other L (Ne.symm e)] at q; exact updB_mono L i 0 (h.c1 q)
  · rw [e5] at q; exact updB_mono L i 3 (h.c5 q)
  · by_cases e : i = 3
    · exact updB_mono L i 2 (d3 e)
    · rw [updB_other L (Ne.symm e)] at q; exact updB_mono L i 2 (h.c3 q)
theorem SmK.far (h : SmK b2 b3 A B L x V) {i : Nat} (hi : 5 < i) (v : Value) : SmK b2 b3 A B (updB L i) (upd x i v) V := by
  have e : ∀ j, j ≤ 5 → updB L i j = L j := fun j hj => updB_other L (by omega)
  have u1 : upd x i v 1 = x 1 := upd_other x v (by omega)
  have u3 : upd x i v 3 = x 3 := upd_other x v (by omega)
  exact ⟨fun q => h.m0 (by rwa [e 4 (by decide)] at q), fun q => by rw [u1]; exact h.m1 (by rwa [e 4 (by decide)] at q), fun q => h.n0 (by rwa [e 5 (by decide)] at q), fun q => by rw [u3]; exact h.n1 (by rwa [e 5 (by decide)] at q),
    fun q => by rw [e 1 (by decide)]; exact h.c4 (by rwa [e 4 (by decide)] at q), fun q => by rw [e 0 (by decide)]; exact h.c1 (by rwa [e 1 (by decide)] at q), fun q => by rw [e 3 (by decide)]; exact h.c5 (by rwa [e 5 (by decide)] at q), fun q => by rw [e 2 (by decide)]; exact h.c3 (by rwa [e 3 (by decide)] at q)⟩
theorem SmK.st4 (h : SmK b2 b3 A B L x V) (hne : b3 ≠ b2) (q1 : L 1 = true) {z0 z1 z2 z3 z4 y0 y1 y2 y3 y4 : Value} (hb : V.heap[b2]? = some (.cells #[y0, y1, y2, y3, y4] 33 (0, 0))) (hx : x 1 = .agg #[z0, z1, z2, z3, z4]) (v : Value) : SmK b2 b3 A B (updB L 4) (upd x 4 v) (set5 V b2 z0 z1 z2 z3 z4) := by
  have e5 : updB L 4 5 = L 5 := updB_other L (by decide)
  have e3 : ∀ o, V.heap[b3]? = some o → (set5 V b2 z0 z1 z2 z3 z4).heap[b3]? = some o := fun o ho => (set5_other _ _ _ _ _ _ _ hne).trans ho
  refine ⟨fun q => (by rw [updB_same] at q; cases q), fun _ => ⟨_, by rw [upd_other x v (by decide)]; exact hx, set5_block hb _ _ _ _ _⟩, fun q => e3 _ (h.n0 (by rwa [e5] at q)), fun q => ?_, fun _ => updB_mono L 4 1 q1, fun q => ?_, fun q => ?_, fun q => ?_⟩
  · rw [e5] at q
    obtain ⟨cs, k1, k2⟩ := h.n1 q
    exact ⟨cs, by rw [upd_other x v (by decide)]; exact k1, e3 _ k2⟩
  · rw [updB_other L (by decide)] at q; exact updB_mono L 4 0 (h.c1 q)
  · rw [e5] at q; exact updB_mono L 4 3 (h.c5 q)
  · rw [updB_other L (by decide)] at q; exact updB_mono L 4 2 (h.c3 q)
theorem SmK.st5 (h : SmK b2 b3 A B L x V) (hne : b2 ≠ b3) (q3 : L 3 = true) {z0 z1 z2 z3 z4 y0 y1 y2 y3 y4 : Value} (hb : V.heap[b3]? = some (.cells #[y0, y1, y2, y3, y4] 33 (0, 0))) (hx : x 3 = .agg #[z0, z1, z2, z3, z4]) (v : Value) : SmK b2 b3 A B (updB L 5) (upd x 5 v) (set5 V b3 z0 z1 z2 z3 z4) := by
  have e4 : updB L 5 4 = L 4 := updB_other L (by decide)
  have e2 : ∀ o, V.heap[b2]? = some o → (set5 V b3 z0 z1 z2 z3 z4).heap[b2]? = some o := fun o ho => (set5_other _ _ _ _ _ _ _ hne).trans ho
  refine ⟨fun q => e2 _ (h.m0 (by rwa [e4] at q)), fun q => ?_, fun q => (by rw [updB_same] at q; cases q), fun _ => ⟨_, by rw [upd_other x v (by decide)]; exact hx, set5_block hb _ _ _ _ _⟩, fun q => ?_, fun q => ?_, fun _ => updB_mono L 5 3 q3, fun q => ?_⟩
  · rw [e4] at q
    obtain ⟨cs, k1, k2⟩ := h.m1 q
    exact ⟨cs, by rw [upd_other x v (by decide)]; exact k1, e2 _ k2⟩
  · rw [e4] at q; exact updB_mono L 5 1 (h.c4 q)
  · rw [updB_other L (by decide)] at q; exact updB_mono L 5 0 (h.c1 q)
  · rw [updB_other L (by decide)] at q; exact updB_mono L 5 2 (h.c3 q)
end
end Go.Proofs.YtdidgddcgjpokaaGreatDoor
/- What the reference's Canon and Fresh keep: a scheme in its block, a row of names, a row of pairs. -/
namespace Go.Proofs.YtdidgddcgjpokaaGreatDoor
open Go.RowKit Go.Sort Go.Lib
attribute [local go_sem] Oper.semAt_some

theorem tok_goodZ {s : T} (hg : T.Good s) (hs : tsize s ≤ 200) : TOK V3 s := ⟨good_plain s hg, sf_nm s hg, hs, fun n hn => good_in s hg n hn⟩
theorem vok3Z : VOK V3 := ⟨by decide, v3_small⟩
/-- Blocks of another type stay as they are, whatever a row of one's own grows by. -/
theorem keepX {W W' : World} {base : Nat} {e E : TypeId} {size : Nat} {v : Value} {n : Nat} {xs : List Value} (hg : W.grownBy W' v.ownBlock) (h : W.ownsRow base e size v n xs) (he : E ≠ e) : ∀ (k : Nat) (cs : Array Value) (fz : Nat × Nat), W.heap[k]? = some (.cells cs E fz) → W'.heap[k]? = some (.cells cs E fz) := by
  intro k cs fz hk
  refine (hg.block k (Array.getElem?_eq_some_iff.1 hk).1 fun ee => ?_).trans hk
  rcases h.2 with ⟨rfl, _⟩ | ⟨g, cap, cur, rfl, _, hgb, _⟩
  · cases ee
  · obtain rfl : k = g := by simpa [Value.ownBlock] using ee
    rw [hk] at hgb
    cases hgb
    exact he rfl
theorem rowK {w w' : World} {base : Nat} {e : TypeId} {size : Nat} {v : Value} {n : Nat} {xs : List Value} (h : w.ownsRow base e size v n xs) (hk : ∀ (k : Nat) (cs : Array Value) (fz : Nat × Nat), w.heap[k]? = some (.cells cs e fz) → w'.heap[k]? = some (.cells cs e fz)) : w'.ownsRow base e size v n xs := by
  refine ⟨h.1, ?_⟩
  rcases h.2 with h0 | ⟨g, cap, cur, rfl, hb, hg, r⟩
  · exact .inl h0
  · exact .inr ⟨g, cap, cur, rfl, hb, hk _ _ _ hg, r⟩
theorem rowB {w w' : World} {base : Nat} {e : TypeId} {size : Nat} {v : Value} {n : Nat} {xs : List Value} (h : w.ownsRow base e size v n xs) (hb : Below w.heap.size w w') : w'.ownsRow base e size v n xs :=
  rowK h fun k _ _ hk => (hb.block k (Array.getElem?_eq_some_iff.1 hk).1).trans hk
/-- A scheme in its block, its names in a row of one's own, the pairs in another; all else as it was. -/
def RCI (p : Nat) (w W3 : World) (M : List ByteArray) (vv : Value) (ds : List PR) (lv : Value) (Y : World) : Prop :=
  Y.heap[p]? = some (.cells #[vv, .slice none 0 0, .int .i64 0, .string ⟨#[]⟩, .slice none 0 0] 33 (0, 0)) ∧ Y.ownsRow W3.heap.size 9 1 vv M.length (M.map Value.string) ∧ Y.ownsRow W3.heap.size 53 4 lv ds.length (cellsP ds) ∧ (∀ k, k < W3.heap.size → k ≠ p → Y.heap[k]? = W3.heap[k]?) ∧ Below w.heap.size w Y ∧ W3.heap.size ≤ Y.heap.size
theorem RCI.below {p : Nat} {w W3 : World} {M : List ByteArray} {vv : Value} {ds : List PR} {lv : Value} {Y Z : World} (h : RCI p w W3 M vv ds lv Y) (hb : Below Y.heap.size Y Z) : RCI p w W3 M vv ds lv Z :=
  ⟨(hb.block p (Array.getElem?_eq_some_iff.1 h.1).1).trans h.1, rowB h.2.1 hb, rowB h.2.2.1 hb, fun k hk hn => (hb.block k (by have := h.2.2.2.2.2; omega)).trans (h.2.2.2.1 k hk hn), h.2.2.2.2.1.trans (hb.mono h.2.2.2.2.1.size), by have := hb.size; have := h.2.2.2.2.2; omega⟩
/-- One name more, stored into the scheme. -/
theorem RCI.str {p : Nat} {w W3 : World} {M : List ByteArray} {vv : Value} {ds : List PR} {lv : Value} {Y W5 : World} {x : ByteArray} {m g cap : Nat} (h : RCI p w W3 M vv ds lv Y) (hp : p < W3.heap.size) (hwp : w.heap.size ≤ p) (hm : M.length = m) (hg : Y.grownBy W5 vv.ownBlock)
    (ho : W5.ownsRow W3.heap.size 9 1 (.slice (some ⟨g, 0, none⟩) (m + 1) cap) (m + 1) (M.map Value.string ++ [.string x])) :
    RCI p w W3 (M ++ [x]) (.slice (some ⟨g, 0, none⟩) (m + 1) cap) ds lv (W5.setCell ⟨p, 0, none⟩ (.slice (some ⟨g, 0, none⟩) (m + 1) cap)) := by
  obtain ⟨h1, h2, h3, h4, h5, h6⟩ := h
  have hne : some p ≠ vv.ownBlock := fun e => by have := (h2.lt p e.symm).1; omega
  have e1 : W5.heap[p]? = some (.cells #[vv, .slice none 0 0, .int .i64 0, .string ⟨#[]⟩, .slice none 0 0] 33 (0, 0)) := (hg.block p (by omega) hne).trans h1
  have hs : Y.heap.size ≤ W5.heap.size := hg.size
  have hss : (W5.setCell ⟨p, 0, none⟩ (.slice (some ⟨g, 0, none⟩) (m + 1) cap)).heap.size = W5.heap.size := by simp [World.setCell]
  have hk : ∀ (k : Nat) (o : Obj), W5.heap[k]? = some o → k ≠ p → (W5.setCell ⟨p, 0, none⟩ (.slice (some ⟨g, 0, none⟩) (m + 1) cap)).heap[k]? = some o := fun k o hk hkp => (Below.heap_setCell _ ⟨p, 0, none⟩ _ k hkp).trans hk
  refine ⟨blk_set (o := 0) e1 _, ?_, ?_, fun k hkk hkp => ?_, ?_, by omega⟩
  · rw [List.map_append, List.length_append, hm]
    exact own_keep (p := p) ho hk hp
  · exact own_keep (p := p) (rowK h3 fun k cs fz hk => keepX hg h2 (by decide) k cs fz hk) hk hp
  · refine (Below.heap_setCell _ ⟨p, 0, none⟩ _ k hkp).trans ((hg.block k (by omega) (fun e => ?_)).trans (h4 k hkk hkp))
    have := (h2.lt k e.symm).1; omega
  · exact (h5.grown hg (by have := h5.size; omega) (fun j hj => by have := (h2.lt j hj).1; omega)).setCell (p := ⟨p, 0, none⟩) hwp _
theorem RCI.blk {p : Nat} {w W3 : World} {M : List ByteArray} {vv : Value} {ds : List PR} {lv : Value} {Y W5 : World} (h : RCI p w W3 M vv ds lv Y) (hp : p < W3.heap.size) (hg : Y.grownBy W5 vv.ownBlock) : W5.heap[p]? = some (.cells #[vv, .slice none 0 0, .int .i64 0, .string ⟨#[]⟩, .slice none 0 0] 33 (0, 0)) :=
  (hg.block p (by have := h.2.2.2.2.2; omega) (fun e => by have := (h.2.1.lt p e.symm).1; omega)).trans h.1
/-- The type's three cells of a scheme's block, stored. -/
def set3z (W : World) (p : Nat) (z u v : Value) : World := ((W.setCell ⟨p, 2, none⟩ z).setCell ⟨p, 3, none⟩ u).setCell ⟨p, 4, none⟩ v
theorem set3z_block {W : World} {r : Nat} {x0 y0 z0 u0 v0 : Value} {T : TypeId} (h : W.heap[r]? = some (.cells #[x0, y0, z0, u0, v0] T (0, 0))) (z u v : Value) : (set3z W r z u v).heap[r]? = some (.cells #[x0, y0, z, u, v] T (0, 0)) :=
  blk_set (o := 4) (blk_set (o := 3) (blk_set (o := 2) h z) u) v
theorem set3z_other (W : World) (r : Nat) (z u v : Value) {k : Nat} (hk : k ≠ r) : (set3z W r z u v).heap[k]? = W.heap[k]? :=
  (Below.heap_setCell _ ⟨r, 4, none⟩ _ k hk).trans ((Below.heap_setCell _ ⟨r, 3, none⟩ _ k hk).trans (Below.heap_setCell _ ⟨r, 2, none⟩ _ k hk))
theorem below_set3z {B : Nat} {w W : World} (h : Below B w W) {r : Nat} (hB : B ≤ r) (z u v : Value) : Below B w (set3z W r z u v) :=
  ((h.setCell (p := ⟨r, 2, none⟩) hB z).setCell (p := ⟨r, 3, none⟩) hB u).setCell (p := ⟨r, 4, none⟩) hB v
theorem keepO_other {V Y : World} {p : Nat} {cs : Array Value} (hz : V.heap[p]? = some (.cells cs 33 (0, 0))) (h : ∀ k, k ≠ p → Y.heap[k]? = V.heap[k]?) : KeepO V Y := fun k cs' T fz hT hk => (h k fun e => by subst e; rw [hz] at hk; simp at hk; exact hT hk.2.1.symm).trans hk
/-- One pair more. -/
theorem RCI.pair {p : Nat} {w W3 : World} {M : List ByteArray} {vv : Value} {ds : List PR} {lv v9 : Value} {Y W9 : World} {pr : PR} (h : RCI p w W3 M vv ds lv Y) (hp : p < W3.heap.size) (hwp : w.heap.size ≤ p) (hg : Y.grownBy W9 lv.ownBlock)
    (ho : W9.ownsRow W3.heap.size 53 4 v9 (ds.length + 1) (cellsP ds ++ encP pr)) : RCI p w W3 M vv (ds ++ [pr]) v9 W9 := by
  obtain ⟨h1, h2, h3, h4, h5, h6⟩ := h
  have hne : some p ≠ lv.ownBlock := fun e => by have := (h3.lt p e.symm).1; omega
  refine ⟨(hg.block p (by omega) hne).trans h1, rowK h2 fun k cs fz hk => keepX hg h3 (by decide) k cs fz hk, ?_, fun k hkk hkp => ?_, ?_, by have := hg.size; omega⟩
  · rw [cellsP_snoc, List.length_append]; exact ho
  · exact (hg.block k (by omega) (fun e => by have := (h3.lt k e.symm).1; omega)).trans (h4 k hkk hkp)
  · exact h5.grown hg (by have := h5.size; omega) (fun _ hj => by have := (h3.lt _ hj).1; omega)
/-- Fresh's: the names and the pairs. -/
def RFI (W1 : World) (M : List ByteArray) (vv : Value) (ds : List PR) (lv : Value) (Y : World) : Prop :=
  Y.ownsRow W1.heap.size 9 1 vv M.length (M.map Value.string) ∧ Y.ownsRow W1.heap.size 53 4 lv ds.length (cellsP ds) ∧ Below W1.heap.size W1 Y
theorem RFI.below {W1 : World} {M : List ByteArray} {vv : Value} {ds : List PR} {lv : Value} {Y Z : World} (h : RFI W1 M vv ds lv Y) (hb : Below Y.heap.size Y Z) : RFI W1 M vv ds lv Z := ⟨rowB h.1 hb, rowB h.2.1 hb, h.2.2.trans (hb.mono h.2.2.size)⟩
theorem RFI.str {W1 : World} {M : List ByteArray} {vv v9 : Value} {ds : List PR} {lv : Value} {Y W5 : World} {x : ByteArray} {m : Nat} (h : RFI W1 M vv ds lv Y) (hm : M.length = m) (hg : Y.grownBy W5 vv.ownBlock) (ho : W5.ownsRow W1.heap.size 9 1 v9 (m + 1) (M.map Value.string ++ [.string x])) : RFI W1 (M ++ [x]) v9 ds lv W5 :=
  ⟨by rw [List.map_append, List.length_append, hm]; exact ho, rowK h.2.1 fun k cs fz hk => keepX hg h.1 (by decide) k cs fz hk, h.2.2.grown hg h.2.2.size (fun j hj => (h.1.lt j hj).1)⟩
theorem RFI.pair {W1 : World} {M : List ByteArray} {vv v9 : Value} {ds : List PR} {lv : Value} {Y W9 : World} {pr : PR} (h : RFI W1 M vv ds lv Y) (hg : Y.grownBy W9 lv.ownBlock) (ho : W9.ownsRow W1.heap.size 53 4 v9 (ds.length + 1) (cellsP ds ++ encP pr)) : RFI W1 M vv (ds ++ [pr]) v9 W9 :=
  ⟨rowK h.1 fun k cs fz hk => keepX hg h.2.1 (by decide) k cs fz hk, by rw [cellsP_snoc, List.length_append]; exact ho, h.2.2.grown hg h.2.2.size (fun j hj => (h.2.1.lt j hj).1)⟩
/-- The result's block: nothing yet, or the scheme. -/
def MkZ (b4 : Nat) (va : Option Addr) (nv vc m : Nat) (lc : List Pr) (u : T) (L : Nat → Bool) (V : World) : Prop :=
  (L 11 = false → Sch0 b4 V) ∧ (L 11 = true → ∃ pa pc za zc, V.heap[b4]? = some (.cells #[.slice va nv vc, .slice pa m pc, .int .i64 u.kind, .string u.name, .slice za u.kids.length zc] 33 (0, 0)) ∧ PrsAt V (.slice pa m pc) lc ∧ TysAt V (.slice za u.kids.length zc) u.kids)
theorem MkZ.keep {b4 : Nat} {va : Option Addr} {nv vc m : Nat} {lc : List Pr} {u : T} {L : Nat → Bool} {V Y : World} {i : Nat} (h : MkZ b4 va nv vc m lc u L V) (hs : (i == 11) = false) (hb : Below V.heap.size V Y) : MkZ b4 va nv vc m lc u (updB L i) Y := by
  have e : updB L i 11 = L 11 := updB_other L (by simp at hs; omega)
  refine ⟨fun hl => (h.1 (e ▸ hl)).below hb, fun hl => ?_⟩
  obtain ⟨pa, pc, za, zc, h1, h2, h3⟩ := h.2 (e ▸ hl)
  exact ⟨pa, pc, za, zc, (hb.block b4 (Array.getElem?_eq_some_iff.1 h1).1).trans h1, h2.belowG hb, h3.keep (KeepT.of_below hb)⟩
theorem keepO_set5 {V : World} {b4 : Nat} (hz : Sch0 b4 V) (x y z u v : Value) : KeepO V (set5 V b4 x y z u v) := fun k cs T fz hT hk => (set5_other V b4 x y z u v (fun e => by subst e; rw [hz] at hk; simp at hk; exact hT hk.2.1.symm)).trans hk
theorem GivenG.keepO {v : Value} {d : List PR} {w w' : World} (h : GivenG 53 v d w) (hk : KeepO w w') : GivenG 53 v d w' := by
  rcases h with h | ⟨h0, g, cap, e, cs, h1, h2⟩
  · exact .inl h
  · exact .inr ⟨h0, g, cap, e, cs, hk _ _ _ _ (by decide) h1, h2⟩
theorem PrsAt.keepOz {w w' : World} (hk : KeepO w w') {v : Value} {l : List Pr} (h : PrsAt w v l) : PrsAt w' v l := h.keep (fun k cs fz h => hk k cs _ fz (by decide) h) (fun k cs fz h => hk k cs _ fz (by decide) h)
theorem TysAt.keepOz {w w' : World} (hk : KeepO w w') {v : Value} {l : List T} (h : TysAt w v l) : TysAt w' v l := h.keep fun k cs fz h => hk k cs _ fz (by decide) h
/-- The pairs: these names, variables for them. -/
def DsOf (ds : List PR) (B M : List ByteArray) : Prop := ds.length = B.length ∧ M.length = B.length ∧ ∀ j, j < B.length → (ds.getD j noP).n = B.getD j ⟨#[]⟩ ∧ (ds.getD j noP).t = .var (M.getD j ⟨#[]⟩)
theorem DsOf.nil : DsOf [] [] [] := ⟨rfl, rfl, fun _ hj => absurd hj (Nat.not_lt_zero _)⟩
theorem DsOf.snoc {ds : List PR} {B M : List ByteArray} (h : DsOf ds B M) (b y : ByteArray) (a : Option Addr) (c : Nat) : DsOf (ds ++ [⟨b, .var y, a, c⟩]) (B ++ [b]) (M ++ [y]) := by
  obtain ⟨h1, h2, h3⟩ := h
  refine ⟨by simp [h1], by simp [h2], fun j hj => ?_⟩
  by_cases e : j = B.length
  · subst e
    have e1 : (ds ++ [(⟨b, .var y, a, c⟩ : PR)]).getD B.length noP = ⟨b, .var y, a, c⟩ := by simp [List.getD, ← h1]
    have e2 : (B ++ [b]).getD B.length ⟨#[]⟩ = b := by simp [List.getD]
    have e3 : (M ++ [y]).getD B.length ⟨#[]⟩ = y := by simp [List.getD, ← h2]
    rw [e1, e2, e3]; exact ⟨rfl, rfl⟩
  · have hj' : j < B.length := by simp at hj; omega
    have e1 : (ds ++ [(⟨b, .var y, a, c⟩ : PR)]).getD j noP = ds.getD j noP := by simp [List.getD, List.getElem?_append_left (show j < ds.length by omega)]
    have e2 : (B ++ [b]).getD j ⟨#[]⟩ = B.getD j ⟨#[]⟩ := by simp [List.getD, List.getElem?_append_left hj']
    have e3 : (M ++ [y]).getD j ⟨#[]⟩ = M.getD j ⟨#[]⟩ := by simp [List.getD, List.getElem?_append_left (show j < M.length by omega)]
    rw [e1, e2, e3]; exact h3 j hj'
/-- What the pairs do. -/
theorem DsOf.app {ds : List PR} {B M : List ByteArray} (h : DsOf ds B M) (W : World) : Typ ds W ∧ (∀ u, app ds u = app (prs B M) u) ∧ ∀ l, appP ds l = appP (prs B M) l := by
  obtain ⟨h1, h2, h3⟩ := h
  have hc : Copy ds (prs B M) := ⟨by rw [h1, prs_len]; omega, fun j hj => by
    obtain ⟨e1, e2⟩ := prs_get B M j (by omega)
    rw [e1, e2]; exact h3 j (by omega)⟩
  have ha : ∀ u, Go.Proofs.YtdidgddcgjpokaaGreatDoor.app ds u = Go.Proofs.YtdidgddcgjpokaaGreatDoor.app (prs B M) u := fun u => app_congr (fun n => by unfold ty; rw [hc.lk]) u
  refine ⟨fun x hx => ?_, ha, fun l => by unfold appP; exact List.map_congr_left fun q _ => by rw [ha]⟩
  obtain ⟨j, hj, rfl⟩ := List.mem_iff_getElem.1 hx
  have := (h3 j (by omega)).2
  have e : ds.getD j noP = ds[j] := by simp [List.getD, hj]
  rw [e] at this
  rw [this]
  exact TysAt.nil _ _ _
/-- Names for low numbers. -/
theorem nmI_at {n : Nat} (h : n < 26) : nmI n = nameAt n := by
  unfold nmI nmL nameAt
  rw [if_pos h, Nat.mod_eq_of_lt h]
theorem rname_low (n : Nat) (hn : n < 26) (w : World) : Calls Tryz.prog 22 #[.int .i64 (n : Int)] w fun e w' => e = .returned (.string (nameAt n)) ∧ Below w.heap.size w w' := by
  have := rname_int (n : Int) (by omega) w
  rwa [Int.toNat_natCast, nmI_at hn] at this
theorem bsf_snoc (xs L : List ByteArray) {i : Nat} (h : i < L.length) : (L.take (i + 1)).filter (inB xs) = if inB xs (L.getD i ⟨#[]⟩) = true then (L.take i).filter (inB xs) ++ [L.getD i ⟨#[]⟩] else (L.take i).filter (inB xs) := by
  rw [List.take_succ_eq_append_getElem h, List.filter_append, show L.getD i ⟨#[]⟩ = L[i] by simp [List.getD, h]]
  by_cases hx : inB xs L[i] = true
  · rw [if_pos hx]; simp [hx]
  · rw [if_neg hx]; simp [hx]
/-- A context in order: there is one. -/
theorem srt_is (lc : List Pr) : ∃ l1, SrtP l1 ∧ ∀ q, q ∈ l1 ↔ q ∈ lc := by
  induction lc with
  | nil => exact ⟨[], List.Pairwise.nil, fun q => Iff.rfl⟩
  | cons a lc ih =>
    obtain ⟨l1, h1, h2⟩ := ih
    obtain ⟨ks, hk, hkp⟩ : ∃ ks : List PR, ks.map prOf = l1 ∧ ks.Pairwise fun x y => cmpR x y < 0 := by
      refine ⟨l1.map fun q => ⟨q.1, q.2, none, 0⟩, by rw [List.map_map]; exact List.map_id l1, ?_⟩
      rw [List.pairwise_map]; exact h1
    obtain ⟨y, hy⟩ : ∃ y : PR, prOf y = a := ⟨⟨a.1, a.2, none, 0⟩, rfl⟩
    have key : ∀ (k : Nat) (hkl : k ≤ ks.length), (∀ j, j < k → cmpR (ks.getD j noP) y < 0) → ∃ l2, SrtP l2 ∧ ∀ q, q ∈ l2 ↔ q ∈ a :: lc := by
      intro k hkl hb
      obtain ⟨r, hr⟩ : ∃ r, ks.length - k = r := ⟨_, rfl⟩
      induction r generalizing k with
      | zero =>
        refine ⟨_, srtP_of (ins_strict hkp hkl hb fun hlt => by omega), fun q => ?_⟩
        rw [ins_mem, hk, hy, h2, List.mem_cons, or_comm]
      | succ r ihr =>
        have hlt : k < ks.length := by omega
        rcases Int.lt_trichotomy (cmpR (ks.getD k noP) y) 0 with h | h | h
        · refine ihr (k + 1) (by omega) (fun j hj => ?_) (by omega)
          by_cases e : j = k
          · rw [e]; exact h
          · exact hb j (by omega)
        · refine ⟨l1, h1, fun q => ?_⟩
          rw [h2, List.mem_cons]
          refine ⟨.inr, fun e => e.elim (fun e => ?_) id⟩
          have he := (cmpR_zero _ _).1 h
          have hm : prOf (ks.getD k noP) ∈ ks.map prOf := List.mem_map.2 ⟨ks[k], List.getElem_mem hlt, by simp [List.getD, hlt]⟩
          rw [hk] at hm
          have : prOf (ks.getD k noP) = a := by rw [← hy]; unfold prOf; rw [he.1, he.2]
          rw [e, ← h2, ← this]; exact hm
        · refine ⟨_, srtP_of (ins_strict hkp hkl hb fun _ => h), fun q => ?_⟩
          rw [ins_mem, hk, hy, h2, List.mem_cons, or_comm]
    exact key 0 (Nat.zero_le _) fun j hj => absurd hj (Nat.not_lt_zero _)
/-- paideiaref4.SortPreds: the context in order. -/
theorem rsortP_any (lc l1 : List Pr) (h1 : SrtP l1) (h2 : ∀ q, q ∈ l1 ↔ q ∈ lc) (hf : ∀ q ∈ lc, tsize q.2 ≤ 1000000) (hl : lc.length ≤ 100) (la : Option Addr) (c : Nat) (w : World) (hP : PrsAt w (.slice la lc.length c) lc) :
    Calls Tryz.prog 20 #[.slice la lc.length c] w fun e w' => (∃ pa pc, e = .returned (.slice pa l1.length pc) ∧ PrsAt w' (.slice pa l1.length pc) l1) ∧ Below w.heap.size w w' := by
  obtain ⟨ps, hps, hpv⟩ := PV.of_prs hP
  have hpl : ps.length = lc.length := by rw [← hps]; simp
  have hm : ∀ x ∈ ps, prOf x ∈ lc := fun x hx => hps ▸ List.mem_map.2 ⟨x, hx, rfl⟩
  have := rsort_any ps la c w (by rw [hpl]; exact hpv) (fun x hx => by
    have h := hf _ (hm x hx)
    exact ⟨fits_small (show tsize x.t ≤ _ from by have : tsize x.t ≤ 1000000 := h; omega), by have : tsize x.t ≤ 1000000 := h; omega⟩) (by omega)
  rw [hpl] at this
  refine this.mono ?_
  rintro e w' ⟨⟨ks, oa, oc, rfl, ⟨hkl, hkp, hkm, hks⟩, hown, hb2⟩, hb⟩
  have e1 : ks.map prOf = l1 := srtP_one (srtP_of hkp) h1 fun q => by rw [hkm, ← hpl, List.take_length, hps, h2]
  have e2 : l1.length = ks.length := by rw [← e1]; simp
  have hp := prs_of_own hown fun x hx => (hpv.1 x (hks x hx)).keep (KeepT.of_below hb)
  rw [e1] at hp
  exact ⟨⟨oa, oc, by rw [e2], by rw [e2]; exact hp⟩, hb⟩
end Go.Proofs.YtdidgddcgjpokaaGreatDoor
/- reference: its last statement, a region of 8 operations that draws its order, by an invariant. (Made by a program.) -/
namespace Go.Proofs.YtdidgddcgjpokaaGreatDoor
open Go.RowKit Go.Maps Go.Sort Go.Lib
attribute [local go_sem] Oper.semAt_some

noncomputable def rcaOps : Array Oper := regionIn 2 (Tryz.f11.body.getD .skip)
def rcaFr (b : Nat → Value) (d : List Deferred) (x : Nat → Value) : Act := { tmps := #[b 0, b 1, b 2, b 3, x 7, b 5, b 6, b 7, b 8, b 9, b 10, x 0, x 1, x 2, x 3, x 4, x 5, x 6, b 18, b 19, b 20, b 21, b 22, b 23, b 24, b 25, b 26, b 27, b 28, b 29, b 30, b 31, b 32, b 33, b 34, b 35, b 36, b 37, b 38, b 39, b 40, b 41, b 42, b 43, b 44, b 45, b 46, b 47, b 48, b 49, b 50, b 51, b 52, b 53, b 54, b 55, b 56, b 57, b 58, b 59, b 60, b 61, b 62, b 63, b 64, b 65, b 66, b 67, b 68, b 69, b 70], defers := d }

def rcaVals (b1 : Nat) (ca ta : Option Addr) (cc tc : Nat) (L : List ByteArray) (lc l1 : List Pr) (t : T) (i : Nat) (v : Value) (V : World) : Prop :=
  match i with
  | 0 => v = .pointer (some ⟨b1, 2, none⟩)
  | 1 => v = .agg #[.int .i64 (t).kind, .string (t).name, .slice ta (t).kids.length tc]
  | 2 => v = .pointer (some ⟨b1, 1, none⟩)
  | 3 => v = .slice ca lc.length cc
  | 4 => ∃ pa pc, v = .slice pa l1.length pc ∧ PrsAt V (.slice pa l1.length pc) l1
  | 5 => ∃ aa ac, v = .slice aa (l1.length + 1) ac ∧ TysAt V (.slice aa (l1.length + 1) ac) (t :: l1.map (fun q : Pr => q.2))
  | 6 => ∃ la ld, v = .slice la L.length ld ∧ TextsAt V (.slice la L.length ld) L
  | 7 => ∃ la ld, v = .slice la L.length ld ∧ TextsAt V (.slice la L.length ld) L
  | _ => True

theorem rcaVals_keep {b1 : Nat} {ca ta : Option Addr} {cc tc : Nat} {L : List ByteArray} {lc l1 : List Pr} {t : T} (i : Nat) (v : Value) (V Y : World) (h : rcaVals b1 ca ta cc tc L lc l1 t i v V) (hb : Below V.heap.size V Y) : rcaVals b1 ca ta cc tc L lc l1 t i v Y := by
  unfold rcaVals at *
  split at h <;> first
    | exact h
    | (obtain ⟨pa, pc, e, h⟩ := h; exact ⟨pa, pc, e, h.belowG hb⟩)
    | (obtain ⟨aa, ac, e, h⟩ := h; exact ⟨aa, ac, e, h.keep (KeepT.of_below hb)⟩)
    | (obtain ⟨la, ld, e, h⟩ := h; exact ⟨la, ld, e, h.below hb⟩)

theorem rca_size : rcaOps.size = 8 := by kernel_rfl
set_option linter.unusedSimpArgs false in
set_option maxRecDepth 100000 in
set_option maxHeartbeats 8000000 in
theorem rca_region {w : World} {b1 : Nat} {xa ca ta : Option Addr} {xc cc tc : Nat} {xs L : List ByteArray} {lc l1 : List Pr} {t : T} {b : Nat → Value} {d : List Deferred}
    (h1 : b 1 = .pointer (some ⟨b1, 0, none⟩))
    (HC4 : ∀ V, SFg w b1 xa xc xs ca cc lc t ta tc V → Calls Tryz.prog 20 #[.slice ca lc.length cc] V fun e Y => (∃ pa pc, e = .returned (.slice pa l1.length pc) ∧ PrsAt Y (.slice pa l1.length pc) l1) ∧ Below V.heap.size V Y)
    (HC5 : ∀ V, SFg w b1 xa xc xs ca cc lc t ta tc V → ∀ pa4, ∀ pc4, PrsAt V (.slice pa4 l1.length pc4) l1 → Calls Tryz.prog 36 #[.agg #[.int .i64 (t).kind, .string (t).name, .slice ta (t).kids.length tc], .slice pa4 l1.length pc4] V fun e Y => (∃ aa ac, e = .returned (.slice aa (l1.length + 1) ac) ∧ TysAt Y (.slice aa (l1.length + 1) ac) (t :: l1.map (fun q : Pr => q.2))) ∧ Below V.heap.size V Y)
    (HC6 : ∀ V, SFg w b1 xa xc xs ca cc lc t ta tc V → ∀ aa5, ∀ ac5, TysAt V (.slice aa5 (l1.length + 1) ac5) (t :: l1.map (fun q : Pr => q.2)) → Calls Tryz.prog 28 #[.slice aa5 (l1.length + 1) ac5] V fun e Y => (∃ la ld, e = .returned (.slice la L.length ld) ∧ TextsAt Y (.slice la L.length ld) L) ∧ Below V.heap.size V Y)
    {Q : Exit → Act → World → Prop} {ops : Array Oper} (hops : ops = rcaOps) (x0 : Nat → Value) (X : World) (hS : SFg w b1 xa xc xs ca cc lc t ta tc X.drew)
    (hfin : ∀ (x : Nat → Value) V la ld, SFg w b1 xa xc xs ca cc lc t ta tc V → x 7 = .slice la L.length ld → TextsAt V (.slice la L.length ld) L → Q .normal (rcaFr b d x) V) : (Code.region 2 ops true).wp Tryz.prog Q (rcaFr b d x0) X := by
  have HC := Lib.hid (And.intro HC4 (And.intro HC5 HC6))
  clear HC4 HC5 HC6
  refine region_inv (rcaFr b d) (fun V => SFg w b1 xa xc xs ca cc lc t ta tc V) (fun V Y => Below V.heap.size V Y) (rcaVals b1 ca ta cc tc L lc l1 t) x0 (by kernel_rfl) rfl hS (fun V Y h hb => h.below hb) (fun i v V Y _ h hb => rcaVals_keep i v V Y h hb) ?_ (fun x V hV h => by obtain ⟨la, ld, e1, k1⟩ := h 7 (by rw [hops, rca_size]; decide); exact hfin x V la ld hV e1 k1)
  clear hfin hS
  obtain ⟨f, hf⟩ : ∃ qq, StepAt Tryz.prog (rcaFr b d) (fun V => SFg w b1 xa xc xs ca cc lc t ta tc V) (fun V Y => Below V.heap.size V Y) (rcaVals b1 ca ta cc tc L lc l1 t) ops Q = qq := ⟨_, rfl⟩
  rw [hf, hops]
  simp only [rcaOps, Tryz.f11, regionIn, Option.getD_some, Nat.reduceBEq, Bool.false_eq_true, if_false, if_true, beq_self_eq_true, Array.append_empty, Array.empty_append, List.append_eq, List.cons_append, List.nil_append, AllAt, Nat.reduceAdd, Nat.zero_add]
  -- 0: slot 11 := Op.fieldAddr 33 t1 2
  refine And.intro ?_ ?_
  · rw [← hf]; clear hf
    refine ⟨by decide +kernel, fun x v => by kernel_rfl, fun x V hV hdep K hK => ?_⟩
    clear hdep
    refine run_bare (by kernel_rfl) ?_
    unfold rcaFr
    go_simp
    refine kfit (hK _ _ (Below.refl _ V) rfl) ?_
    first | (simp only [rcaFr, Act.put, List.setIfInBounds_toArray, List.set_cons_zero, List.set_cons_succ, h1]; done) | (simp only [rcaFr, Act.put, List.setIfInBounds_toArray, List.set_cons_zero, List.set_cons_succ, h1]; rfl)
  -- 1: slot 12 := Op.load 31 t11
  refine And.intro ?_ ?_
  · rw [← hf]; clear hf
    refine ⟨by decide +kernel, fun x v => by kernel_rfl, fun x V hV hdep K hK => ?_⟩
    have e0 : x 0 = .pointer (some ⟨b1, 2, none⟩) := depOf hdep 0 (by decide +kernel)
    clear hdep
    refine run_bare (by kernel_rfl) ?_
    unfold rcaFr
    obtain ⟨y0, y1, y2, y3, y4⟩ := cells5 hV.1.1
    go_simp
    refine kfit (hK _ _ (Below.refl _ V) rfl) ?_
    first | (simp only [rcaFr, Act.put, List.setIfInBounds_toArray, List.set_cons_zero, List.set_cons_succ, h1, e0]; done) | (simp only [rcaFr, Act.put, List.setIfInBounds_toArray, List.set_cons_zero, List.set_cons_succ, h1, e0]; rfl)
  -- 2: slot 13 := Op.fieldAddr 33 t1 1
  refine And.intro ?_ ?_
  · rw [← hf]; clear hf
    refine ⟨by decide +kernel, fun x v => by kernel_rfl, fun x V hV hdep K hK => ?_⟩
    clear hdep
    refine run_bare (by kernel_rfl) ?_
    unfold rcaFr
    go_simp
    refine kfit (hK _ _ (Below.refl _ V) rfl) ?_
    first | (simp only [rcaFr, Act.put, List.setIfInBounds_toArray, List.set_cons_zero, List.set_cons_succ, h1]; done) | (simp only [rcaFr, Act.put, List.setIfInBounds_toArray, List.set_cons_zero, List.set_cons_succ, h1]; rfl)
  -- 3: slot 14 := Op.load 28 t13
  refine And.intro ?_ ?_
  · rw [← hf]; clear hf
    refine ⟨by decide +kernel, fun x v => by kernel_rfl, fun x V hV hdep K hK => ?_⟩
    have e2 : x 2 = .pointer (some ⟨b1, 1, none⟩) := depOf hdep 2 (by decide +kernel)
    clear hdep
    refine run_bare (by kernel_rfl) ?_
    unfold rcaFr
    obtain ⟨y0, y1, y2, y3, y4⟩ := cells5 hV.1.1
    go_simp
    refine kfit (hK _ _ (Below.refl _ V) rfl) ?_
    first | (simp only [rcaFr, Act.put, List.setIfInBounds_toArray, List.set_cons_zero, List.set_cons_succ, h1, e2]; done) | (simp only [rcaFr, Act.put, List.setIfInBounds_toArray, List.set_cons_zero, List.set_cons_succ, h1, e2]; rfl)
  -- 4: slot 15 := Op.call { value (Operand.func 20), args := #[t14], argTypes 
  refine And.intro ?_ ?_
  · rw [← hf]; clear hf
    refine ⟨by decide +kernel, fun x v => by kernel_rfl, fun x V hV hdep K hK => ?_⟩
    have e3 : x 3 = .slice ca lc.length cc := depOf hdep 3 (by decide +kernel)
    clear hdep
    refine run_bare (by kernel_rfl) ?_
    unfold rcaFr
    obtain ⟨HC4, HC5, HC6⟩ := HC.out
    clear HC5 HC6
    have H := HC4 V hV
    replace H := Lib.hid H; clear HC4
    go_simp
    go_at_call 20
    refine H.out.mono ?_
    rintro e Y ⟨⟨pa, pc, rfl, hq⟩, hb⟩; refine kfit (hK _ _ hb ⟨pa, pc, rfl, hq⟩) ?_
    first | (simp only [rcaFr, Act.put, List.setIfInBounds_toArray, List.set_cons_zero, List.set_cons_succ, h1, e3]; done) | (simp only [rcaFr, Act.put, List.setIfInBounds_toArray, List.set_cons_zero, List.set_cons_succ, h1, e3]; rfl)
  -- 5: slot 16 := Op.call { value (Operand.func 36), args := #[t12, t15], argT
  refine And.intro ?_ ?_
  · rw [← hf]; clear hf
    refine ⟨by decide +kernel, fun x v => by kernel_rfl, fun x V hV hdep K hK => ?_⟩
    have e1 : x 1 = .agg #[.int .i64 (t).kind, .string (t).name, .slice ta (t).kids.length tc] := depOf hdep 1 (by decide +kernel)
    obtain ⟨pa4, pc4, e4, d4⟩ : ∃ pa4 pc4, x 4 = .slice pa4 l1.length pc4 ∧ PrsAt V (.slice pa4 l1.length pc4) l1 := depOf hdep 4 (by decide +kernel)
    clear hdep
    refine run_bare (by kernel_rfl) ?_
    unfold rcaFr
    obtain ⟨HC4, HC5, HC6⟩ := HC.out
    clear HC4 HC6
    have H := HC5 V hV _ _ d4
    replace H := Lib.hid H; clear HC5
    go_simp
    go_at_call 36
    refine H.out.mono ?_
    rintro e Y ⟨⟨aa, ac, rfl, hq⟩, hb⟩; refine kfit (hK _ _ hb ⟨aa, ac, rfl, hq⟩) ?_
    first | (simp only [rcaFr, Act.put, List.setIfInBounds_toArray, List.set_cons_zero, List.set_cons_succ, h1, e1, e4]; done) | (simp only [rcaFr, Act.put, List.setIfInBounds_toArray, List.set_cons_zero, List.set_cons_succ, h1, e1, e4]; rfl)
  -- 6: slot 17 := Op.call { value (Operand.func 28), args := #[t16], argTypes 
  refine And.intro ?_ ?_
  · rw [← hf]; clear hf
    refine ⟨by decide +kernel, fun x v => by kernel_rfl, fun x V hV hdep K hK => ?_⟩
    obtain ⟨aa5, ac5, e5, d5⟩ : ∃ aa5 ac5, x 5 = .slice aa5 (l1.length + 1) ac5 ∧ TysAt V (.slice aa5 (l1.length + 1) ac5) (t :: l1.map (fun q : Pr => q.2)) := depOf hdep 5 (by decide +kernel)
    clear hdep
    refine run_bare (by kernel_rfl) ?_
    unfold rcaFr
    obtain ⟨HC4, HC5, HC6⟩ := HC.out
    clear HC4 HC5
    have H := HC6 V hV _ _ d5
    replace H := Lib.hid H; clear HC6
    go_simp
    go_at_call 28
    refine H.out.mono ?_
    rintro e Y ⟨⟨la, ld, rfl, hq⟩, hb⟩; refine kfit (hK _ _ hb ⟨la, ld, rfl, hq⟩) ?_
    first | (simp only [rcaFr, Act.put, List.setIfInBounds_toArray, List.set_cons_zero, List.set_cons_succ, h1, e5]; done) | (simp only [rcaFr, Act.put, List.setIfInBounds_toArray, List.set_cons_zero, List.set_cons_succ, h1, e5]; rfl)
  -- 7: slot 4 := Op.assign t17
  refine And.intro ?_ ?_
  · rw [← hf]; clear hf
    refine ⟨by decide +kernel, fun x v => by kernel_rfl, fun x V hV hdep K hK => ?_⟩
    obtain ⟨la6, ld6, e6, d6⟩ : ∃ la6 ld6, x 6 = .slice la6 L.length ld6 ∧ TextsAt V (.slice la6 L.length ld6) L := depOf hdep 6 (by decide +kernel)
    clear hdep
    refine run_bare (by kernel_rfl) ?_
    unfold rcaFr
    go_simp
    refine kfit (hK _ _ (Below.refl _ V) ⟨_, _, rfl, d6⟩) ?_
    first | (simp only [rcaFr, Act.put, List.setIfInBounds_toArray, List.set_cons_zero, List.set_cons_succ, h1, e6]; done) | (simp only [rcaFr, Act.put, List.setIfInBounds_toArray, List.set_cons_zero, List.set_cons_succ, h1, e6]; rfl)
  exact trivial
theorem rca_here {w : World} {b1 : Nat} {xa ca ta : Option Addr} {xc cc tc : Nat} {xs L : List ByteArray} {lc l1 : List Pr} {t : T}
    (HC4 : ∀ V, SFg w b1 xa xc xs ca cc lc t ta tc V → Calls Tryz.prog 20 #[.slice ca lc.length cc] V fun e Y => (∃ pa pc, e = .returned (.slice pa l1.length pc) ∧ PrsAt Y (.slice pa l1.length pc) l1) ∧ Below V.heap.size V Y)
    (HC5 : ∀ V, SFg w b1 xa xc xs ca cc lc t ta tc V → ∀ pa4, ∀ pc4, PrsAt V (.slice pa4 l1.length pc4) l1 → Calls Tryz.prog 36 #[.agg #[.int .i64 (t).kind, .string (t).name, .slice ta (t).kids.length tc], .slice pa4 l1.length pc4] V fun e Y => (∃ aa ac, e = .returned (.slice aa (l1.length + 1) ac) ∧ TysAt Y (.slice aa (l1.length + 1) ac) (t :: l1.map (fun q : Pr => q.2))) ∧ Below V.heap.size V Y)
    (HC6 : ∀ V, SFg w b1 xa xc xs ca cc lc t ta tc V → ∀ aa5, ∀ ac5, TysAt V (.slice aa5 (l1.length + 1) ac5) (t :: l1.map (fun q : Pr => q.2)) → Calls Tryz.prog 28 #[.slice aa5 (l1.length + 1) ac5] V fun e Y => (∃ la ld, e = .returned (.slice la L.length ld) ∧ TextsAt Y (.slice la L.length ld) L) ∧ Below V.heap.size V Y)
    {Q : Exit → Act → World → Prop} {ops : Array Oper} {a : Act} (X : World) (hops : ops = rcaOps)
    (h1 : a.tmps.getD 1 undef = .pointer (some ⟨b1, 0, none⟩))
    (ha : a = rcaFr (fun j => a.tmps.getD j undef) a.defers (fun i => a.tmps.getD (if i = 7 then 4 else 11 + i) undef)) (hS : SFg w b1 xa xc xs ca cc lc t ta tc X.drew)
    (hfin : ∀ (x : Nat → Value) V la ld, SFg w b1 xa xc xs ca cc lc t ta tc V → x 7 = .slice la L.length ld → TextsAt V (.slice la L.length ld) L → Q .normal (rcaFr (fun j => a.tmps.getD j undef) a.defers x) V) : (Code.region 2 ops true).wp Tryz.prog Q a X :=
  cast (congrArg (fun z => (Code.region 2 ops true).wp Tryz.prog Q z X) ha.symm) (rca_region (b := fun j => a.tmps.getD j undef) (d := a.defers) h1 HC4 HC5 HC6 hops _ X hS hfin)
end Go.Proofs.YtdidgddcgjpokaaGreatDoor
/- one pair more: its last statement, a region of 12 operations that draws its order, by an invariant. (Made by a program.) -/
namespace Go.Proofs.YtdidgddcgjpokaaGreatDoor
open Go.RowKit Go.Maps Go.Sort Go.Lib
attribute [local go_sem] Oper.semAt_some

noncomputable def rcbOps : Array Oper := regionIn 13 (Tryz.f11.body.getD .skip)
def rcbFr (b : Nat → Value) (d : List Deferred) (x : Nat → Value) : Act := { tmps := #[b 0, b 1, b 2, b 3, b 4, b 5, b 6, b 7, b 8, b 9, b 10, b 11, b 12, b 13, b 14, b 15, b 16, b 17, b 18, b 19, b 20, b 21, b 22, b 23, b 24, b 25, b 26, b 27, b 28, b 29, b 30, b 31, b 32, b 33, b 34, b 35, b 36, b 37, b 38, b 39, b 40, b 41, b 42, b 43, b 44, b 45, x 0, x 1, x 2, x 3, x 4, x 5, x 6, x 7, x 8, x 9, x 10, b 57, b 58, b 59, b 60, b 61, b 62, b 63, b 64, b 65, b 66, b 67, b 68, b 69, b 70], defers := d }

def rcbVals (gL nL cL ix n : Nat) (y : ByteArray) (pr : PR) (lv : Value) (i : Nat) (v : Value) (V : World) : Prop :=
  match i with
  | 0 => v = lv
  | 1 => v = .slice (some ⟨gL, 0, none⟩) nL cL
  | 2 => v = .int .i64 (ix : Int)
  | 3 => v = .pointer (some ⟨gL, ix, none⟩)
  | 4 => v = .string pr.n
  | 5 => v = .int .i64 (n : Int)
  | 6 => v = .string y
  | 7 => v = .agg #[.int .i64 pr.t.kind, .string pr.t.name, .slice pr.a pr.t.kids.length pr.c]
  | 8 => v = .agg #[.string pr.n, .int .i64 pr.t.kind, .string pr.t.name, .slice pr.a pr.t.kids.length pr.c]
  | 9 => ∃ zb, v = .slice (some ⟨zb, 0, none⟩) 1 1 ∧ RowY pr zb V
  | _ => True

theorem rcbVals_keep {gL nL cL ix n : Nat} {y : ByteArray} {pr : PR} {lv : Value} (i : Nat) (v : Value) (V Y : World) (h : rcbVals gL nL cL ix n y pr lv i v V) (hb : Below V.heap.size V Y) : rcbVals gL nL cL ix n y pr lv i v Y := by
  unfold rcbVals at *
  split at h <;> first
    | exact h
    | (obtain ⟨zb, e, h⟩ := h; exact ⟨zb, e, h.below hb⟩)

theorem rcb_size : rcbOps.size = 12 := by kernel_rfl
theorem rcb_cov : covered rcbOps 10 = true := by kernel_rfl
set_option linter.unusedSimpArgs false in
set_option maxRecDepth 100000 in
set_option maxHeartbeats 8000000 in
theorem rcb_region {w W3 : World} {p gL nL cL ix n : Nat} {L M : List ByteArray} {y : ByteArray} {pr : PR} {ds : List PR} {vv lv : Value} (hiN : ix < L.length) (hf : Hid (L.getD ix ⟨#[]⟩ = pr.n)) (hi0 : (0 : Int) ≤ (ix : Int)) (hi3 : (ix : Int) < (nL : Int)) (hds : ds.length ≤ 1000) {b : Nat → Value} {d : List Deferred}
    (h4 : b 4 = .slice (some ⟨gL, 0, none⟩) nL cL) (h5 : b 5 = lv) (h7 : b 7 = .int .i64 (n : Int)) (h8 : b 8 = .int .i64 (ix : Int))
    (HC6 : ∀ V, (TRow gL L V ∧ RCI p w W3 M vv ds lv V) → Calls Tryz.prog 22 #[.int .i64 (n : Int)] V fun e Y => e = .returned (.string y) ∧ Below V.heap.size V Y)
    (HC7 : ∀ V, (TRow gL L V ∧ RCI p w W3 M vv ds lv V) → Calls Tryz.prog 25 #[.string y] V fun e Y => e = .returned (.agg #[.int .i64 pr.t.kind, .string pr.t.name, .slice pr.a pr.t.kids.length pr.c]) ∧ Below V.heap.size V Y)
    {Q : Exit → Act → World → Prop} {ops : Array Oper} (hops : ops = rcbOps) (x0 : Nat → Value) (X : World) (hS : (TRow gL L X.drew ∧ RCI p w W3 M vv ds lv X.drew))
    (hfin : ∀ (x : Nat → Value) V g9 c9 w9, (TRow gL L V ∧ RCI p w W3 M vv ds lv V) → w9.ownsRow W3.heap.size 53 4 (.slice (some ⟨g9, 0, none⟩) (ds.length + 1) c9) (ds.length + 1) (cellsP ds ++ encP pr) → V.grownBy w9 lv.ownBlock → Q .normal (((rcbFr b d x).put (some 56) (.slice (some ⟨g9, 0, none⟩) (ds.length + 1) c9)).put (some 5) (.slice (some ⟨g9, 0, none⟩) (ds.length + 1) c9)) w9) : (Code.region 13 ops true).wp Tryz.prog Q (rcbFr b d x0) X := by
  have HC := Lib.hid (And.intro HC6 HC7)
  clear HC6 HC7
  have hszo : ops.size = 10 + 2 := by rw [hops]; exact rcb_size
  have hcovo : covered ops 10 = true := by rw [hops]; exact rcb_cov
  refine region_tail (rcbFr b d) (fun V => (TRow gL L V ∧ RCI p w W3 M vv ds lv V)) (fun V Y => Below V.heap.size V Y) (rcbVals gL nL cL ix n y pr lv) x0 10 (by kernel_rfl) rfl hS hszo hcovo (fun V Y h hb => ⟨h.1.below hb, h.2.below hb⟩) (fun i v V Y _ h hb => rcbVals_keep i v V Y h hb) ?_
  have HFIN := Lib.hid hfin
  clear hfin hS hszo hcovo
  obtain ⟨gl, hgl⟩ : ∃ qq, TailAt Tryz.prog (rcbFr b d) (fun V => (TRow gL L V ∧ RCI p w W3 M vv ds lv V)) (rcbVals gL nL cL ix n y pr lv) ops Q 10 = qq := ⟨_, rfl⟩
  rw [hgl]
  obtain ⟨f, hf⟩ : ∃ qq, StepAt Tryz.prog (rcbFr b d) (fun V => (TRow gL L V ∧ RCI p w W3 M vv ds lv V)) (fun V Y => Below V.heap.size V Y) (rcbVals gL nL cL ix n y pr lv) ops Q = qq := ⟨_, rfl⟩
  rw [hf, hops]
  simp only [rcbOps, Tryz.f11, regionIn, Option.getD_some, Nat.reduceBEq, Bool.false_eq_true, if_false, if_true, beq_self_eq_true, Array.append_empty, Array.empty_append, List.append_eq, List.cons_append, List.nil_append, AllTail, Nat.reduceAdd, Nat.zero_add]
  -- 0: slot 46 := Op.move t5
  refine And.intro ?_ ?_
  · clear HFIN hgl
    rw [← hf]; clear hf
    refine ⟨by decide +kernel, fun x v => by kernel_rfl, fun x V hV hdep K hK => ?_⟩
    clear hdep
    refine run_bare (by kernel_rfl) ?_
    unfold rcbFr
    go_simp
    refine kfit (hK _ _ (Below.refl _ V) rfl) ?_
    first | (simp only [rcbFr, Act.put, List.setIfInBounds_toArray, List.set_cons_zero, List.set_cons_succ, h4, h5, h7, h8]; done) | (simp only [rcbFr, Act.put, List.setIfInBounds_toArray, List.set_cons_zero, List.set_cons_succ, h4, h5, h7, h8]; rfl)
  -- 1: slot 47 := Op.move t4
  refine And.intro ?_ ?_
  · clear HFIN hgl
    rw [← hf]; clear hf
    refine ⟨by decide +kernel, fun x v => by kernel_rfl, fun x V hV hdep K hK => ?_⟩
    clear hdep
    refine run_bare (by kernel_rfl) ?_
    unfold rcbFr
    go_simp
    refine kfit (hK _ _ (Below.refl _ V) rfl) ?_
    first | (simp only [rcbFr, Act.put, List.setIfInBounds_toArray, List.set_cons_zero, List.set_cons_succ, h4, h5, h7, h8]; done) | (simp only [rcbFr, Act.put, List.setIfInBounds_toArray, List.set_cons_zero, List.set_cons_succ, h4, h5, h7, h8]; rfl)
  -- 2: slot 48 := Op.move t8
  refine And.intro ?_ ?_
  · clear HFIN hgl
    rw [← hf]; clear hf
    refine ⟨by decide +kernel, fun x v => by kernel_rfl, fun x V hV hdep K hK => ?_⟩
    clear hdep
    refine run_bare (by kernel_rfl) ?_
    unfold rcbFr
    go_simp
    refine kfit (hK _ _ (Below.refl _ V) rfl) ?_
    first | (simp only [rcbFr, Act.put, List.setIfInBounds_toArray, List.set_cons_zero, List.set_cons_succ, h4, h5, h7, h8]; done) | (simp only [rcbFr, Act.put, List.setIfInBounds_toArray, List.set_cons_zero, List.set_cons_succ, h4, h5, h7, h8]; rfl)
  -- 3: slot 49 := Op.indexAddr 23 t47 t48
  refine And.intro ?_ ?_
  · clear HFIN hgl
    rw [← hf]; clear hf
    refine ⟨by decide +kernel, fun x v => by kernel_rfl, fun x V hV hdep K hK => ?_⟩
    have e1 : x 1 = .slice (some ⟨gL, 0, none⟩) nL cL := depOf hdep 1 (by decide +kernel)
    have e2 : x 2 = .int .i64 (ix : Int) := depOf hdep 2 (by decide +kernel)
    clear hdep
    refine run_bare (by kernel_rfl) ?_
    unfold rcbFr
    go_simp
    refine kfit (hK _ _ (Below.refl _ V) rfl) ?_
    first | (simp only [rcbFr, Act.put, List.setIfInBounds_toArray, List.set_cons_zero, List.set_cons_succ, h4, h5, h7, h8, e1, e2]; done) | (simp only [rcbFr, Act.put, List.setIfInBounds_toArray, List.set_cons_zero, List.set_cons_succ, h4, h5, h7, h8, e1, e2]; rfl)
  -- 4: slot 50 := Op.load 9 t49
  refine And.intro ?_ ?_
  · clear HFIN hgl
    rw [← hf]; clear hf
    refine ⟨by decide +kernel, fun x v => by kernel_rfl, fun x V hV hdep K hK => ?_⟩
    have e3 : x 3 = .pointer (some ⟨gL, ix, none⟩) := depOf hdep 3 (by decide +kernel)
    clear hdep
    refine run_bare (by kernel_rfl) ?_
    unfold rcbFr
    have y6 := hV.1.cell hiN; rw [hf.out] at y6
    go_simp
    refine kfit (hK _ _ (Below.refl _ V) rfl) ?_
    first | (simp only [rcbFr, Act.put, List.setIfInBounds_toArray, List.set_cons_zero, List.set_cons_succ, h4, h5, h7, h8, e3]; done) | (simp only [rcbFr, Act.put, List.setIfInBounds_toArray, List.set_cons_zero, List.set_cons_succ, h4, h5, h7, h8, e3]; rfl)
  -- 5: slot 51 := Op.move t7
  refine And.intro ?_ ?_
  · clear HFIN hgl
    rw [← hf]; clear hf
    refine ⟨by decide +kernel, fun x v => by kernel_rfl, fun x V hV hdep K hK => ?_⟩
    clear hdep
    refine run_bare (by kernel_rfl) ?_
    unfold rcbFr
    go_simp
    refine kfit (hK _ _ (Below.refl _ V) rfl) ?_
    first | (simp only [rcbFr, Act.put, List.setIfInBounds_toArray, List.set_cons_zero, List.set_cons_succ, h4, h5, h7, h8]; done) | (simp only [rcbFr, Act.put, List.setIfInBounds_toArray, List.set_cons_zero, List.set_cons_succ, h4, h5, h7, h8]; rfl)
  -- 6: slot 52 := Op.call { value (Operand.func 22), args := #[t51], argTypes 
  refine And.intro ?_ ?_
  · clear HFIN hgl
    rw [← hf]; clear hf
    refine ⟨by decide +kernel, fun x v => by kernel_rfl, fun x V hV hdep K hK => ?_⟩
    have e5 : x 5 = .int .i64 (n : Int) := depOf hdep 5 (by decide +kernel)
    clear hdep
    refine run_bare (by kernel_rfl) ?_
    unfold rcbFr
    obtain ⟨HC6, HC7⟩ := HC.out
    clear HC7
    have H := HC6 V hV
    replace H := Lib.hid H; clear HC6
    go_simp
    go_at_call 22
    refine H.out.mono ?_
    rintro e Y ⟨rfl, hb⟩; refine kfit (hK _ _ hb rfl) ?_
    first | (simp only [rcbFr, Act.put, List.setIfInBounds_toArray, List.set_cons_zero, List.set_cons_succ, h4, h5, h7, h8, e5]; done) | (simp only [rcbFr, Act.put, List.setIfInBounds_toArray, List.set_cons_zero, List.set_cons_succ, h4, h5, h7, h8, e5]; rfl)
  -- 7: slot 53 := Op.call { value (Operand.func 25), args := #[t52], argTypes 
  refine And.intro ?_ ?_
  · clear HFIN hgl
    rw [← hf]; clear hf
    refine ⟨by decide +kernel, fun x v => by kernel_rfl, fun x V hV hdep K hK => ?_⟩
    have e6 : x 6 = .string y := depOf hdep 6 (by decide +kernel)
    clear hdep
    refine run_bare (by kernel_rfl) ?_
    unfold rcbFr
    obtain ⟨HC6, HC7⟩ := HC.out
    clear HC6
    have H := HC7 V hV
    replace H := Lib.hid H; clear HC7
    go_simp
    go_at_call 25
    refine H.out.mono ?_
    rintro e Y ⟨rfl, hb⟩; refine kfit (hK _ _ hb rfl) ?_
    first | (simp only [rcbFr, Act.put, List.setIfInBounds_toArray, List.set_cons_zero, List.set_cons_succ, h4, h5, h7, h8, e6]; done) | (simp only [rcbFr, Act.put, List.setIfInBounds_toArray, List.set_cons_zero, List.set_cons_succ, h4, h5, h7, h8, e6]; rfl)
  -- 8: slot 54 := Op.build 53 #[(0, t50), (1, t53)]
  refine And.intro ?_ ?_
  · clear HFIN hgl
    rw [← hf]; clear hf
    refine ⟨by decide +kernel, fun x v => by kernel_rfl, fun x V hV hdep K hK => ?_⟩
    have e4 : x 4 = .string pr.n := depOf hdep 4 (by decide +kernel)
    have e7 : x 7 = .agg #[.int .i64 pr.t.kind, .string pr.t.name, .slice pr.a pr.t.kids.length pr.c] := depOf hdep 7 (by decide +kernel)
    clear hdep
    refine run_bare (by kernel_rfl) ?_
    unfold rcbFr
    go_simp
    refine kfit (hK _ _ (Below.refl _ V) rfl) ?_
    first | (simp only [rcbFr, Act.put, List.setIfInBounds_toArray, List.set_cons_zero, List.set_cons_succ, h4, h5, h7, h8, e4, e7]; done) | (simp only [rcbFr, Act.put, List.setIfInBounds_toArray, List.set_cons_zero, List.set_cons_succ, h4, h5, h7, h8, e4, e7]; rfl)
  -- 9: slot 55 := Op.buildSlice 50 1 #[(0, t54)]
  refine And.intro ?_ ?_
  · clear HFIN hgl
    rw [← hf]; clear hf
    refine ⟨by decide +kernel, fun x v => by kernel_rfl, fun x V hV hdep K hK => ?_⟩
    have e8 : x 8 = .agg #[.string pr.n, .int .i64 pr.t.kind, .string pr.t.name, .slice pr.a pr.t.kids.length pr.c] := depOf hdep 8 (by decide +kernel)
    clear hdep
    refine run_bare (by kernel_rfl) ?_
    unfold rcbFr
    go_simp
    refine kfit (hK _ _ (below_a _ _) ⟨_, rfl, alloc_new V _⟩) ?_
    first | (simp only [rcbFr, Act.put, List.setIfInBounds_toArray, List.set_cons_zero, List.set_cons_succ, h4, h5, h7, h8, e8]; done) | (simp only [rcbFr, Act.put, List.setIfInBounds_toArray, List.set_cons_zero, List.set_cons_succ, h4, h5, h7, h8, e8]; rfl)
  -- 10: slot 56 := Op.call { builtin append, args := #[t46, t55], argTypes := #
  · clear HC
    rw [← hgl]; clear hgl
    refine ⟨by decide +kernel, by decide +kernel, ⟨_, Array.mem_of_getElem (i := 0) (h := by decide) rfl, by decide, rfl⟩, fun x V hV hall K hK => ?_⟩
    have e0 : x 0 = lv := hall 0 (by decide)
    obtain ⟨zb, e9, hz⟩ : ∃ zb, x 9 = .slice (some ⟨zb, 0, none⟩) 1 1 ∧ RowY pr zb V := hall 9 (by decide)
    clear hall
    have ho := hV.2.2.2.1
    have hsz := hV.2.2.2.2.2.2
    obtain ⟨i0, hi, hz0, hz1, hz2⟩ := info_parts Tryz.infoRefPair
    have HF := Lib.hid (fun g9 c9 w9 => HFIN.out x V g9 c9 w9 hV)
    clear HFIN
    unfold rcbFr at hK ⊢
    refine step_append_lies V (by kernel_rfl) (.tmp 46) (.tmp 55) 50 (by kernel_rfl) (W3.heap.size) 53 i0 (.agg zeroP) 4 64 Tryz.underlying50 hi hz0 hz1 hz2 rfl (by decide) lv ds.length (cellsP ds) e0 ho ⟨zb, 0, none⟩ 1 1 (encP pr) e9 rfl (World.news_of_block hz) (encP_one pr) (by decide) (by unfold maxLen; omega) (by omega) hsz V.heap.size rfl ?_
    intro g9 c9 w9 hown9 hgr9 _ _
    have H := Lib.hid (HF.out g9 c9 w9 hown9 hgr9)
    clear HF hown9 hgr9 hV ho hz
    unfold rcbFr at H
    refine hK _ _ fun K2 hK2 => run_bare (by kernel_rfl) ?_
    clear hK
    go_simp
    refine kfit (hK2 _ _ H.out) ?_
    first | (simp only [Act.put, List.setIfInBounds_toArray, List.set_cons_zero, List.set_cons_succ, h4, h5, h7, h8, e0, e9]; done) | (simp only [Act.put, List.setIfInBounds_toArray, List.set_cons_zero, List.set_cons_succ, h4, h5, h7, h8, e0, e9]; rfl)
  -- 11: slot 5 := Op.assign t56
theorem rcb_here {w W3 : World} {p gL nL cL ix n : Nat} {L M : List ByteArray} {y : ByteArray} {pr : PR} {ds : List PR} {vv lv : Value} (hiN : ix < L.length) (hf : Hid (L.getD ix ⟨#[]⟩ = pr.n)) (hi0 : (0 : Int) ≤ (ix : Int)) (hi3 : (ix : Int) < (nL : Int)) (hds : ds.length ≤ 1000)
    (HC6 : ∀ V, (TRow gL L V ∧ RCI p w W3 M vv ds lv V) → Calls Tryz.prog 22 #[.int .i64 (n : Int)] V fun e Y => e = .returned (.string y) ∧ Below V.heap.size V Y)
    (HC7 : ∀ V, (TRow gL L V ∧ RCI p w W3 M vv ds lv V) → Calls Tryz.prog 25 #[.string y] V fun e Y => e = .returned (.agg #[.int .i64 pr.t.kind, .string pr.t.name, .slice pr.a pr.t.kids.length pr.c]) ∧ Below V.heap.size V Y)
    {Q : Exit → Act → World → Prop} {ops : Array Oper} {a : Act} (X : World) (hops : ops = rcbOps)
    (h4 : a.tmps.getD 4 undef = .slice (some ⟨gL, 0, none⟩) nL cL) (h5 : a.tmps.getD 5 undef = lv) (h7 : a.tmps.getD 7 undef = .int .i64 (n : Int)) (h8 : a.tmps.getD 8 undef = .int .i64 (ix : Int))
    (ha : a = rcbFr (fun j => a.tmps.getD j undef) a.defers (fun i => a.tmps.getD (46 + i) undef)) (hS : (TRow gL L X.drew ∧ RCI p w W3 M vv ds lv X.drew))
    (hfin : ∀ (x : Nat → Value) V g9 c9 w9, (TRow gL L V ∧ RCI p w W3 M vv ds lv V) → w9.ownsRow W3.heap.size 53 4 (.slice (some ⟨g9, 0, none⟩) (ds.length + 1) c9) (ds.length + 1) (cellsP ds ++ encP pr) → V.grownBy w9 lv.ownBlock → Q .normal (((rcbFr (fun j => a.tmps.getD j undef) a.defers x).put (some 56) (.slice (some ⟨g9, 0, none⟩) (ds.length + 1) c9)).put (some 5) (.slice (some ⟨g9, 0, none⟩) (ds.length + 1) c9)) w9) : (Code.region 13 ops true).wp Tryz.prog Q a X :=
  cast (congrArg (fun z => (Code.region 13 ops true).wp Tryz.prog Q z X) ha.symm) (rcb_region hiN hf hi0 hi3 hds (b := fun j => a.tmps.getD j undef) (d := a.defers) h4 h5 h7 h8 HC6 HC7 hops _ X hS hfin)
end Go.Proofs.YtdidgddcgjpokaaGreatDoor
/- reference: its last statement, a region of 8 operations that draws its order, by an invariant. (Made by a program.) -/
namespace Go.Proofs.YtdidgddcgjpokaaGreatDoor
open Go.RowKit Go.Maps Go.Sort Go.Lib
attribute [local go_sem] Oper.semAt_some

noncomputable def rceOps : Array Oper := regionIn 9 (Tryz.f11.body.getD .skip)
def rceFr (b : Nat → Value) (d : List Deferred) (x : Nat → Value) : Act := { tmps := #[b 0, b 1, b 2, b 3, b 4, b 5, b 6, b 7, b 8, b 9, b 10, b 11, b 12, b 13, b 14, b 15, b 16, b 17, b 18, b 19, b 20, b 21, b 22, b 23, b 24, x 0, x 1, x 2, x 3, x 4, x 5, x 6, x 7, b 33, b 34, b 35, b 36, b 37, b 38, b 39, b 40, b 41, b 42, b 43, b 44, b 45, b 46, b 47, b 48, b 49, b 50, b 51, b 52, b 53, b 54, b 55, b 56, b 57, b 58, b 59, b 60, b 61, b 62, b 63, b 64, b 65, b 66, b 67, b 68, b 69, b 70], defers := d }

def rceVals (b1 gL nL cL ix : Nat) (xa : Option Addr) (xc : Nat) (xs : List ByteArray) (f5 : ByteArray) (r : Bool) (i : Nat) (v : Value) (_ : World) : Prop :=
  match i with
  | 0 => v = .pointer (some ⟨b1, 0, none⟩)
  | 1 => v = .slice xa xs.length xc
  | 2 => v = .slice (some ⟨gL, 0, none⟩) nL cL
  | 3 => v = .int .i64 (ix : Int)
  | 4 => v = .pointer (some ⟨gL, ix, none⟩)
  | 5 => v = .string f5
  | 6 => v = .bool r
  | 7 => v = .bool (!r)
  | _ => True

theorem rceVals_keep {b1 gL nL cL ix : Nat} {xa : Option Addr} {xc : Nat} {xs : List ByteArray} {f5 : ByteArray} {r : Bool} (i : Nat) (v : Value) (V Y : World) (h : rceVals b1 gL nL cL ix xa xc xs f5 r i v V) (_ : Below V.heap.size V Y) : rceVals b1 gL nL cL ix xa xc xs f5 r i v Y := by
  unfold rceVals at *
  split at h <;> first
    | exact h

theorem rce_size : rceOps.size = 8 := by kernel_rfl
set_option linter.unusedSimpArgs false in
set_option maxRecDepth 100000 in
set_option maxHeartbeats 8000000 in
theorem rce_region {w W3 : World} {b1 p gL nL cL ix : Nat} {xa ca ta : Option Addr} {xc cc tc : Nat} {xs L M : List ByteArray} {lc : List Pr} {t : T} {f5 : ByteArray} {r : Bool} {ds : List PR} {vv lv : Value} (hiN : ix < L.length) (hf : Hid (L.getD ix ⟨#[]⟩ = f5)) (hi0 : (0 : Int) ≤ (ix : Int)) (hi3 : (ix : Int) < (nL : Int)) {b : Nat → Value} {d : List Deferred}
    (h1 : b 1 = .pointer (some ⟨b1, 0, none⟩)) (h4 : b 4 = .slice (some ⟨gL, 0, none⟩) nL cL) (h8 : b 8 = .int .i64 (ix : Int))
    (HC6 : ∀ V, (TRow gL L V ∧ SFg w b1 xa xc xs ca cc lc t ta tc V ∧ RCI p w W3 M vv ds lv V) → Calls Tryz.prog 29 #[.slice xa xs.length xc, .string f5] V fun e Y => e = .returned (.bool r) ∧ Below V.heap.size V Y)
    {Q : Exit → Act → World → Prop} {ops : Array Oper} (hops : ops = rceOps) (x0 : Nat → Value) (X : World) (hS : (TRow gL L X.drew ∧ SFg w b1 xa xc xs ca cc lc t ta tc X.drew ∧ RCI p w W3 M vv ds lv X.drew))
    (hfin : ∀ (x : Nat → Value) V, (TRow gL L V ∧ SFg w b1 xa xc xs ca cc lc t ta tc V ∧ RCI p w W3 M vv ds lv V) → x 7 = .bool (!r) → Q .normal (rceFr b d x) V) : (Code.region 9 ops true).wp Tryz.prog Q (rceFr b d x0) X := by
  have HC := Lib.hid (HC6)
  clear HC6
  refine region_inv (rceFr b d) (fun V => (TRow gL L V ∧ SFg w b1 xa xc xs ca cc lc t ta tc V ∧ RCI p w W3 M vv ds lv V)) (fun V Y => Below V.heap.size V Y) (rceVals b1 gL nL cL ix xa xc xs f5 r) x0 (by kernel_rfl) rfl hS (fun V Y h hb => ⟨h.1.below hb, h.2.1.below hb, h.2.2.below hb⟩) (fun i v V Y _ h hb => rceVals_keep i v V Y h hb) ?_ (fun x V hV h => hfin x V hV (h 7 (by rw [hops, rce_size]; decide)))
  clear hfin hS
  obtain ⟨f, hf⟩ : ∃ qq, StepAt Tryz.prog (rceFr b d) (fun V => (TRow gL L V ∧ SFg w b1 xa xc xs ca cc lc t ta tc V ∧ RCI p w W3 M vv ds lv V)) (fun V Y => Below V.heap.size V Y) (rceVals b1 gL nL cL ix xa xc xs f5 r) ops Q = qq := ⟨_, rfl⟩
  rw [hf, hops]
  simp only [rceOps, Tryz.f11, regionIn, Option.getD_some, Nat.reduceBEq, Bool.false_eq_true, if_false, if_true, beq_self_eq_true, Array.append_empty, Array.empty_append, List.append_eq, List.cons_append, List.nil_append, AllAt, Nat.reduceAdd, Nat.zero_add]
  -- 0: slot 25 := Op.fieldAddr 33 t1 0
  refine And.intro ?_ ?_
  · rw [← hf]; clear hf
    refine ⟨by decide +kernel, fun x v => by kernel_rfl, fun x V hV hdep K hK => ?_⟩
    clear hdep
    refine run_bare (by kernel_rfl) ?_
    unfold rceFr
    go_simp
    refine kfit (hK _ _ (Below.refl _ V) rfl) ?_
    first | (simp only [rceFr, Act.put, List.setIfInBounds_toArray, List.set_cons_zero, List.set_cons_succ, h1, h4, h8]; done) | (simp only [rceFr, Act.put, List.setIfInBounds_toArray, List.set_cons_zero, List.set_cons_succ, h1, h4, h8]; rfl)
  -- 1: slot 26 := Op.load 23 t25
  refine And.intro ?_ ?_
  · rw [← hf]; clear hf
    refine ⟨by decide +kernel, fun x v => by kernel_rfl, fun x V hV hdep K hK => ?_⟩
    have e0 : x 0 = .pointer (some ⟨b1, 0, none⟩) := depOf hdep 0 (by decide +kernel)
    clear hdep
    refine run_bare (by kernel_rfl) ?_
    unfold rceFr
    have y6 := hV.1.cell hiN; rw [hf.out] at y6; obtain ⟨z0, z1, z2, z3, z4⟩ := cells5 hV.2.1.1.1
    go_simp
    refine kfit (hK _ _ (Below.refl _ V) rfl) ?_
    first | (simp only [rceFr, Act.put, List.setIfInBounds_toArray, List.set_cons_zero, List.set_cons_succ, h1, h4, h8, e0]; done) | (simp only [rceFr, Act.put, List.setIfInBounds_toArray, List.set_cons_zero, List.set_cons_succ, h1, h4, h8, e0]; rfl)
  -- 2: slot 27 := Op.move t4
  refine And.intro ?_ ?_
  · rw [← hf]; clear hf
    refine ⟨by decide +kernel, fun x v => by kernel_rfl, fun x V hV hdep K hK => ?_⟩
    clear hdep
    refine run_bare (by kernel_rfl) ?_
    unfold rceFr
    go_simp
    refine kfit (hK _ _ (Below.refl _ V) rfl) ?_
    first | (simp only [rceFr, Act.put, List.setIfInBounds_toArray, List.set_cons_zero, List.set_cons_succ, h1, h4, h8]; done) | (simp only [rceFr, Act.put, List.setIfInBounds_toArray, List.set_cons_zero, List.set_cons_succ, h1, h4, h8]; rfl)
  -- 3: slot 28 := Op.move t8
  refine And.intro ?_ ?_
  · rw [← hf]; clear hf
    refine ⟨by decide +kernel, fun x v => by kernel_rfl, fun x V hV hdep K hK => ?_⟩
    clear hdep
    refine run_bare (by kernel_rfl) ?_
    unfold rceFr
    go_simp
    refine kfit (hK _ _ (Below.refl _ V) rfl) ?_
    first | (simp only [rceFr, Act.put, List.setIfInBounds_toArray, List.set_cons_zero, List.set_cons_succ, h1, h4, h8]; done) | (simp only [rceFr, Act.put, List.setIfInBounds_toArray, List.set_cons_zero, List.set_cons_succ, h1, h4, h8]; rfl)
  -- 4: slot 29 := Op.indexAddr 23 t27 t28
  refine And.intro ?_ ?_
  · rw [← hf]; clear hf
    refine ⟨by decide +kernel, fun x v => by kernel_rfl, fun x V hV hdep K hK => ?_⟩
    have e2 : x 2 = .slice (some ⟨gL, 0, none⟩) nL cL := depOf hdep 2 (by decide +kernel)
    have e3 : x 3 = .int .i64 (ix : Int) := depOf hdep 3 (by decide +kernel)
    clear hdep
    refine run_bare (by kernel_rfl) ?_
    unfold rceFr
    go_simp
    refine kfit (hK _ _ (Below.refl _ V) rfl) ?_
    first | (simp only [rceFr, Act.put, List.setIfInBounds_toArray, List.set_cons_zero, List.set_cons_succ, h1, h4, h8, e2, e3]; done) | (simp only [rceFr, Act.put, List.setIfInBounds_toArray, List.set_cons_zero, List.set_cons_succ, h1, h4, h8, e2, e3]; rfl)
  -- 5: slot 30 := Op.load 9 t29
  refine And.intro ?_ ?_
  · rw [← hf]; clear hf
    refine ⟨by decide +kernel, fun x v => by kernel_rfl, fun x V hV hdep K hK => ?_⟩
    have e4 : x 4 = .pointer (some ⟨gL, ix, none⟩) := depOf hdep 4 (by decide +kernel)
    clear hdep
    refine run_bare (by kernel_rfl) ?_
    unfold rceFr
    have y6 := hV.1.cell hiN; rw [hf.out] at y6; obtain ⟨z0, z1, z2, z3, z4⟩ := cells5 hV.2.1.1.1
    go_simp
    refine kfit (hK _ _ (Below.refl _ V) rfl) ?_
    first | (simp only [rceFr, Act.put, List.setIfInBounds_toArray, List.set_cons_zero, List.set_cons_succ, h1, h4, h8, e4]; done) | (simp only [rceFr, Act.put, List.setIfInBounds_toArray, List.set_cons_zero, List.set_cons_succ, h1, h4, h8, e4]; rfl)
  -- 6: slot 31 := Op.call { value (Operand.func 29), args := #[t26, t30], argT
  refine And.intro ?_ ?_
  · rw [← hf]; clear hf
    refine ⟨by decide +kernel, fun x v => by kernel_rfl, fun x V hV hdep K hK => ?_⟩
    have e1 : x 1 = .slice xa xs.length xc := depOf hdep 1 (by decide +kernel)
    have e5 : x 5 = .string f5 := depOf hdep 5 (by decide +kernel)
    clear hdep
    refine run_bare (by kernel_rfl) ?_
    unfold rceFr
    have HC6 := HC.out
    have H := HC6 V hV
    replace H := Lib.hid H; clear HC6
    go_simp
    go_at_call 29
    refine H.out.mono ?_
    rintro e Y ⟨rfl, hb⟩; refine kfit (hK _ _ hb rfl) ?_
    first | (simp only [rceFr, Act.put, List.setIfInBounds_toArray, List.set_cons_zero, List.set_cons_succ, h1, h4, h8, e1, e5]; done) | (simp only [rceFr, Act.put, List.setIfInBounds_toArray, List.set_cons_zero, List.set_cons_succ, h1, h4, h8, e1, e5]; rfl)
  -- 7: slot 32 := Op.unOp UnOp.not 4 t31
  refine And.intro ?_ ?_
  · rw [← hf]; clear hf
    refine ⟨by decide +kernel, fun x v => by kernel_rfl, fun x V hV hdep K hK => ?_⟩
    have e6 : x 6 = .bool r := depOf hdep 6 (by decide +kernel)
    clear hdep
    refine run_bare (by kernel_rfl) ?_
    unfold rceFr
    go_simp
    refine kfit (hK _ _ (Below.refl _ V) rfl) ?_
    first | (simp only [rceFr, Act.put, List.setIfInBounds_toArray, List.set_cons_zero, List.set_cons_succ, h1, h4, h8, e6]; done) | (simp only [rceFr, Act.put, List.setIfInBounds_toArray, List.set_cons_zero, List.set_cons_succ, h1, h4, h8, e6]; rfl)
  exact trivial
theorem rce_here {w W3 : World} {b1 p gL nL cL ix : Nat} {xa ca ta : Option Addr} {xc cc tc : Nat} {xs L M : List ByteArray} {lc : List Pr} {t : T} {f5 : ByteArray} {r : Bool} {ds : List PR} {vv lv : Value} (hiN : ix < L.length) (hf : Hid (L.getD ix ⟨#[]⟩ = f5)) (hi0 : (0 : Int) ≤ (ix : Int)) (hi3 : (ix : Int) < (nL : Int))
    (HC6 : ∀ V, (TRow gL L V ∧ SFg w b1 xa xc xs ca cc lc t ta tc V ∧ RCI p w W3 M vv ds lv V) → Calls Tryz.prog 29 #[.slice xa xs.length xc, .string f5] V fun e Y => e = .returned (.bool r) ∧ Below V.heap.size V Y)
    {Q : Exit → Act → World → Prop} {ops : Array Oper} {a : Act} (X : World) (hops : ops = rceOps)
    (h1 : a.tmps.getD 1 undef = .pointer (some ⟨b1, 0, none⟩)) (h4 : a.tmps.getD 4 undef = .slice (some ⟨gL, 0, none⟩) nL cL) (h8 : a.tmps.getD 8 undef = .int .i64 (ix : Int))
    (ha : a = rceFr (fun j => a.tmps.getD j undef) a.defers (fun i => a.tmps.getD (25 + i) undef)) (hS : (TRow gL L X.drew ∧ SFg w b1 xa xc xs ca cc lc t ta tc X.drew ∧ RCI p w W3 M vv ds lv X.drew))
    (hfin : ∀ (x : Nat → Value) V, (TRow gL L V ∧ SFg w b1 xa xc xs ca cc lc t ta tc V ∧ RCI p w W3 M vv ds lv V) → x 7 = .bool (!r) → Q .normal (rceFr (fun j => a.tmps.getD j undef) a.defers x) V) : (Code.region 9 ops true).wp Tryz.prog Q a X :=
  cast (congrArg (fun z => (Code.region 9 ops true).wp Tryz.prog Q z X) ha.symm) (rce_region hiN hf hi0 hi3 (b := fun j => a.tmps.getD j undef) (d := a.defers) h1 h4 h8 HC6 hops _ X hS hfin)
end Go.Proofs.YtdidgddcgjpokaaGreatDoor
