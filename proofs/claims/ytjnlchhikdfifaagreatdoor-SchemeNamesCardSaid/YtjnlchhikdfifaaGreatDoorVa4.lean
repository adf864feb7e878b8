/- Merged: RegMark, SpSwK, SpSwR, SpIns, SpCompact, SpSort, SpPreds, FrSet, Told, Range, SbIter, SbNext, SbRApp, SbRApp2, FrAll, GvVars, GvNew, FrRenR. -/
import Derived.Test.YtjnlchhikdfifaaGreatDoorVa2
import Derived.Test.YtjnlchhikdfifaaGreatDoorVa3
import Derived.RangeFuncNested
import Derived.RangeFuncBound
import Derived.RangeFuncCalls
import Derived.RangeFuncLeaves
import Derived.Stop.RegionWithIn
import Derived.OwnWalkIn
import Derived.TacticsInMore
import Derived.LoopNIn
import Derived.LoopIn
import Derived.Test.YtjnlchhikdfifaaGreatDoorVa1
import Derived.Deep.AppendLies
/- A region that draws its order, by an invariant and a mark: what holds between some of its operations alone (a row that one makes and another takes). -/
namespace Go.Proofs.YtjnlchhikdfifaaGreatDoor

def updB (L : Nat → Bool) (i : Nat) : Nat → Bool := fun j => if j = i then true else L j
theorem updB_same (L : Nat → Bool) (i : Nat) : updB L i i = true := by simp [updB]
theorem updB_other (L : Nat → Bool) {i j : Nat} (h : j ≠ i) : updB L i j = L j := by simp [updB, h]

/-- What is asked of an operation that the mark speaks of. -/
structure MarkAt (P : Program) (fr : (Nat → Value) → Act) (S : World → Prop) (Vals : Nat → Value → World → Prop) (Mk : (Nat → Bool) → (Nat → Value) → World → Prop)
    (ops : Array Oper) (Q : Exit → Act → World → Prop) (i : Nat) (o : Oper) : Prop where
  back : ∀ e ∈ o.after, Region.binds .any e = true → e.on < i
  put : ∀ x v, (fr x).put o.dst v = fr (upd x i v)
  run : ∀ (L : Nat → Bool) (x : Nat → Value) (w : World), S w → (∀ j, L j = true → Vals j (x j) w) → Mk L x w → L i = false → (∀ e ∈ o.after, Region.binds .any e = true → L e.on = true) →
    ∀ K : Act → World → Prop, (∀ v w', S w' → (∀ j, L j = true → Vals j (x j) w') → Vals i v w' → Mk (updB L i) (upd x i v) w' → K ((fr x).put o.dst v) w') →
      if Region.wanted o (yielded ops (fr x).tmps) = true then Oper.wp P o (fr x) w K Q else K ((fr x).put o.dst undef) w

section
variable {P : Program} {ops : Array Oper} {Q : Exit → Act → World → Prop} {fr : (Nat → Value) → Act} {S : World → Prop} {Rel : World → World → Prop} {Vals : Nat → Value → World → Prop} {Mk : (Nat → Bool) → (Nat → Value) → World → Prop} {sp : Nat → Bool}

theorem mark_any (hput : ∀ i o, ops[i]? = some o → sp i = false → StepAt P fr S Rel Vals ops Q i o) (hmark : ∀ i o, ops[i]? = some o → sp i = true → MarkAt P fr S Vals Mk ops Q i o)
    (hrel : ∀ w w', S w → Rel w w' → S w') (hval : ∀ i v w w', S w → Vals i v w → Rel w w' → Vals i v w') (hmk : ∀ i L x v w w', sp i = false → S w → Mk L x w → Rel w w' → Mk (updB L i) (upd x i v) w')
    (hfin : ∀ L x w, S w → (∀ i, i < ops.size → L i = true ∧ Vals i (x i) w) → Mk L x w → Q .normal (fr x) w) :
    ∀ (fuel : Nat) (listed : Array Bool) (x : Nat → Value) (w : World), listed.size = ops.size → ops.size ≤ fuel + listed.toList.count true → S w →
      (∀ i, listed.getD i false = true → Vals i (x i) w) → Mk (fun i => listed.getD i false) x w → wpAny P .any ops Q fuel listed (fr x) w := by
  have hback : ∀ i o, ops[i]? = some o → ∀ e ∈ o.after, Region.binds .any e = true → e.on < i := fun i o h => by
    cases hs : sp i with
    | false => exact (hput i o h hs).back
    | true => exact (hmark i o h hs).back
  have hend : ∀ (listed : Array Bool) (x : Nat → Value) (w : World), listed.size = ops.size → S w → (∀ i, listed.getD i false = true → Vals i (x i) w) → Mk (fun i => listed.getD i false) x w →
      Region.ready .any ops listed = [] → Q .normal (fr x) w := fun listed x w hz hS hV hM h =>
    hfin _ x w hS (fun i hi => ⟨all_of_none hback hz h i hi, hV i (all_of_none hback hz h i hi)⟩) hM
  intro fuel
  induction fuel with
  | zero =>
    intro listed x w hz hc hS hV hM
    have hall : listed.toList.count true = listed.toList.length := by
      have := List.count_le_length (a := true) (l := listed.toList)
      simp at this hc ⊢; omega
    have hr : Region.ready .any ops listed = [] := by
      cases h : Region.ready .any ops listed with
      | nil => rfl
      | cons i l =>
        have hi : i ∈ Region.ready .any ops listed := by rw [h]; simp
        obtain ⟨h0, o, ho, _⟩ := mem_ready.1 hi
        have hlt : i < listed.size := by rw [hz]; exact (Array.getElem?_eq_some_iff.1 ho).1
        have := List.count_eq_length.1 hall listed[i] (by simp)
        simp [hlt] at h0
        rw [h0] at this; cases this
    exact ⟨hr, hend listed x w hz hS hV hM hr⟩
  | succ fuel ih =>
    intro listed x w hz hc hS hV hM
    refine ⟨hend listed x w hz hS hV hM, fun i hi => ?_⟩
    obtain ⟨h0, o, ho, hdep⟩ := mem_ready.1 hi
    have hlt : i < listed.size := by rw [hz]; exact (Array.getElem?_eq_some_iff.1 ho).1
    have h0' : listed[i] = false := by simpa [hlt] using h0
    have hcnt : ops.size ≤ fuel + (listed.setIfInBounds i true).toList.count true := by
      have : (listed.setIfInBounds i true).toList.count true = listed.toList.count true + 1 := by
        rw [Array.toList_setIfInBounds, List.count_set (by simpa using hlt)]
        simp [h0']
      omega
    have hL : (fun j => (listed.setIfInBounds i true).getD j false) = updB (fun j => listed.getD j false) i := by
      funext j
      by_cases e : j = i
      · subst e; rw [updB_same]; simp [hlt]
      · rw [updB_other _ e, getD_set_ne false (Ne.symm e)]
    have hVs : ∀ v w', (∀ j, listed.getD j false = true → Vals j (x j) w') → Vals i v w' → ∀ j, (listed.setIfInBounds i true).getD j false = true → Vals j (upd x i v j) w' := fun v w' h1 h2 j hj => by
      by_cases hji : j = i
      · subst hji; rw [upd_same]; exact h2
      · rw [upd_other x v hji]
        exact h1 j (by rw [getD_set_ne false (Ne.symm hji)] at hj; exact hj)
    cases hs : sp i with
    | false =>
      have H := hput i o ho hs
      have hK : ∀ v w', Rel w w' → Vals i v w' → wpAny P .any ops Q fuel (listed.setIfInBounds i true) ((fr x).put o.dst v) w' := fun v w' hr hv => by
        rw [H.put]
        exact ih _ _ _ (by simpa using hz) hcnt (hrel w w' hS hr) (hVs v w' (fun j hj => hval _ _ _ _ hS (hV j hj) hr) hv) (by rw [hL]; exact hmk i _ x v w w' hs hS hM hr)
      have := H.run x w hS (fun e he hb => hV e.on (hdep e he hb)) _ hK
      unfold wpOp
      simp only [ho]
      split
      · rename_i hw; rw [if_pos hw] at this; exact .inl this
      · rename_i hw; rw [if_neg hw] at this; exact this
    | true =>
      have H := hmark i o ho hs
      have hK : ∀ v w', S w' → (∀ j, listed.getD j false = true → Vals j (x j) w') → Vals i v w' → Mk (updB (fun j => listed.getD j false) i) (upd x i v) w' → wpAny P .any ops Q fuel (listed.setIfInBounds i true) ((fr x).put o.dst v) w' := fun v w' hS' hV' hv hM' => by
        rw [H.put]
        exact ih _ _ _ (by simpa using hz) hcnt hS' (hVs v w' hV' hv) (by rw [hL]; exact hM')
      have := H.run (fun j => listed.getD j false) x w hS hV hM (by simp [hlt, h0']) hdep _ hK
      unfold wpOp
      simp only [ho]
      split
      · rename_i hw; rw [if_pos hw] at this; exact .inl this
      · rename_i hw; rw [if_neg hw] at this; exact this

theorem region_mark (fr : (Nat → Value) → Act) (S : World → Prop) (Rel : World → World → Prop) (Vals : Nat → Value → World → Prop) (Mk : (Nat → Bool) → (Nat → Value) → World → Prop) (sp : Nat → Bool) (x0 : Nat → Value) {id : Nat} {a : Act} {w : World}
    (hm : P.follows .mixedOrders = true) (ha : a = fr x0) (hS : S w.drew) (hM : Mk (fun _ => false) x0 w.drew)
    (hrel : ∀ w w', S w → Rel w w' → S w') (hval : ∀ i v w w', S w → Vals i v w → Rel w w' → Vals i v w') (hmk : ∀ i L x v w w', sp i = false → S w → Mk L x w → Rel w w' → Mk (updB L i) (upd x i v) w')
    (hops : AllAt (fun i o => (sp i = false → StepAt P fr S Rel Vals ops Q i o) ∧ (sp i = true → MarkAt P fr S Vals Mk ops Q i o)) 0 ops.toList)
    (hfin : ∀ L x w, S w → (∀ i, i < ops.size → L i = true ∧ Vals i (x i) w) → Mk L x w → Q .normal (fr x) w) : (Code.region id ops true).wp P Q a w := by
  subst ha
  refine wp_region_any hm ?_
  have hg := fun (i : Nat) (o : Oper) (h : ops[i]? = some o) => hops.get (i := i) (o := o) (by simpa using h)
  have hnone : ∀ i, (Array.replicate ops.size false).getD i false = false := fun i => by
    by_cases h : i < ops.size
    · simp [h]
    · simp [h]
  refine mark_any (fun i o h hs => by have := (hg i o h).1 (by rwa [Nat.zero_add]); rwa [Nat.zero_add] at this) (fun i o h hs => by have := (hg i o h).2 (by rwa [Nat.zero_add]); rwa [Nat.zero_add] at this) hrel hval hmk hfin _ _ _ _ (by simp) (by simp) hS
    (fun i hi => by rw [hnone] at hi; cases hi) ?_
  rw [show (fun i => (Array.replicate ops.size false).getD i false) = fun _ => false from funext hnone]
  exact hM
end
end Go.Proofs.YtjnlchhikdfifaaGreatDoor
/- The sort's exchange: what stands in memory until it is done. -/
namespace Go.Proofs.YtjnlchhikdfifaaGreatDoor
open Go.RowKit Go.Sort Go.Lib
attribute [local go_sem] Oper.semAt_some

theorem depL {o : Oper} {L : Nat → Bool} (h : ∀ e ∈ o.after, Region.binds .any e = true → L e.on = true) (j : Nat)
    (hj : (o.after.any fun e => Region.binds .any e && e.on == j) = true) : L j = true := by
  rw [Array.any_eq_true'] at hj
  obtain ⟨e, he, hj⟩ := hj
  simp only [Bool.and_eq_true, beq_iff_eq] at hj
  have := h e he hj.1
  rw [hj.2] at this; exact this
structure SwK (w : World) (g : Nat) (ls ds : List PR) (jp : Nat) (L : Nat → Bool) (x : Nat → Value) (V : World) : Prop where
  s0 : L 15 = false → SrtI w g ls ds V
  s1 : L 15 = true → L 17 = false → ∃ V0, SrtI w g ls ds V0 ∧ V = set4 V0 g (jp + 1) (ds.getD jp noP)
  s2 : L 17 = true → L 15 = true ∧ SrtI w g ls (swapL ds jp) V
  d15 : L 15 = true → L 9 = true ∧ L 13 = true
section
variable {w V : World} {g : Nat} {ls ds : List PR} {jp : Nat} {L : Nat → Bool} {x : Nat → Value}
theorem SwK.start (h : SrtI w g ls ds V) : SwK w g ls ds jp (fun _ => false) x V := ⟨fun _ => h, (fun e => nomatch e), (fun e => nomatch e), (fun e => nomatch e)⟩
theorem SwK.keep (h : SwK w g ls ds jp L x V) {i : Nat} (hi : (i == 15 || i == 17) = false) (v : Value) : SwK w g ls ds jp (updB L i) (upd x i v) V := by
  simp only [Bool.or_eq_false_iff, beq_eq_false_iff_ne] at hi
  have e15 : updB L i 15 = L 15 := updB_other L (Ne.symm hi.1)
  have e17 : updB L i 17 = L 17 := updB_other L (Ne.symm hi.2)
  have mono : ∀ j, L j = true → updB L i j = true := fun j hj => by
    by_cases e : j = i
    · subst e; exact updB_same _ _
    · rw [updB_other L e]; exact hj
  exact ⟨fun e => h.s0 (by rwa [e15] at e), fun e e2 => h.s1 (by rwa [e15] at e) (by rwa [e17] at e2), fun e => by rw [e17] at e; rw [e15]; exact h.s2 e, fun e => by rw [e15] at e; exact ⟨mono 9 (h.d15 e).1, mono 13 (h.d15 e).2⟩⟩
theorem SwK.st1 (h : SwK w g ls ds jp L x V) (hLi : L 15 = false) (q9 : L 9 = true) (q13 : L 13 = true) (v : Value) : SwK w g ls ds jp (updB L 15) (upd x 15 v) (set4 V g (jp + 1) (ds.getD jp noP)) := by
  have e17 : updB L 15 17 = L 17 := updB_other L (by decide)
  have n17 : L 17 = false := by
    cases e : L 17 with
    | false => rfl
    | true => have := (h.s2 e).1; rw [hLi] at this; cases this
  exact ⟨(fun e => by rw [updB_same] at e; cases e), fun _ _ => ⟨V, h.s0 hLi, rfl⟩, (fun e => by rw [e17, n17] at e; cases e), fun _ => ⟨by rw [updB_other L (by decide)]; exact q9, by rw [updB_other L (by decide)]; exact q13⟩⟩
theorem SwK.st2 (h : SwK w g ls ds jp L x V) (hj : jp + 1 < ds.length) (hLi : L 17 = false) (q15 : L 15 = true) (v : Value) : SwK w g ls ds jp (updB L 17) (upd x 17 v) (set4 V g jp (ds.getD (jp + 1) noP)) := by
  have e15 : updB L 17 15 = L 15 := updB_other L (by decide)
  obtain ⟨V0, h0, e⟩ := h.s1 q15 hLi
  subst e
  exact ⟨(fun e => by rw [e15, q15] at e; cases e), fun _ e => (by rw [updB_same] at e; cases e), fun _ => ⟨by rw [e15]; exact q15, h0.swap hj⟩, fun _ => ⟨by rw [updB_other L (by decide)]; exact (h.d15 q15).1, by rw [updB_other L (by decide)]; exact (h.d15 q15).2⟩⟩
theorem SwK.row0 (h : SwK w g ls ds jp L x V) (h9 : L 9 = false ∨ L 13 = false) : SrtI w g ls ds V := h.s0 (by
  cases e : L 15 with
  | false => rfl
  | true =>
    obtain ⟨a, b⟩ := h.d15 e
    rcases h9 with h9 | h9
    · rw [h9] at a; cases a
    · rw [h9] at b; cases b)
theorem SwK.row1 (h : SwK w g ls ds jp L x V) (hLi : L 17 = false) (q15 : L 15 = true) : RowG 55 g (ds.set (jp + 1) (ds.getD jp noP)) V := by
  obtain ⟨V0, h0, e⟩ := h.s1 q15 hLi
  subst e
  exact h0.2.1.set _ _
end
end Go.Proofs.YtjnlchhikdfifaaGreatDoor
/- the sort's exchange: its last statement, a region of 18 operations that draws its order, by an invariant. (Made by a program.) -/
namespace Go.Proofs.YtjnlchhikdfifaaGreatDoor
open Go.RowKit Go.Sort Go.Lib
attribute [local go_sem] Oper.semAt_some

noncomputable def swpOps : Array Oper := regionIn 6 (Tryz.f80.body.getD .skip)
def swpFr (b : Nat → Value) (d : List Deferred) (x : Nat → Value) : Act := { tmps := #[b 0, b 1, b 2, b 3, b 4, b 5, b 6, b 7, b 8, b 9, b 10, b 11, b 12, b 13, b 14, b 15, b 16, b 17, b 18, b 19, b 20, b 21, b 22, b 23, b 24, b 25, b 26, b 27, b 28, b 29, b 30, b 31, b 32, b 33, b 34, b 35, b 36, x 0, x 1, x 2, x 3, x 4, x 5, x 6, x 7, x 8, x 9, x 10, x 11, x 12, x 13, x 14, x 16], defers := d }

def swpVals (g n cap jp : Nat) (px py : PR) (i : Nat) (v : Value) (_ : World) : Prop :=
  match i with
  | 0 => v = .slice (some ⟨g, 0, none⟩) n cap
  | 1 => v = .int .i64 ((jp : Int) + 1)
  | 2 => v = .slice (some ⟨g, 0, none⟩) n cap
  | 3 => v = .int .i64 ((jp : Int) + 1)
  | 4 => v = .int .i64 (jp : Int)
  | 5 => v = .slice (some ⟨g, 0, none⟩) n cap
  | 6 => v = .int .i64 ((jp : Int) + 1)
  | 7 => v = .int .i64 (jp : Int)
  | 8 => v = .pointer (some ⟨g, jp * 4, none⟩)
  | 9 => v = .agg #[.string py.n, .int .i64 py.t.kind, .string py.t.name, .slice py.a py.t.kids.length py.c]
  | 10 => v = .slice (some ⟨g, 0, none⟩) n cap
  | 11 => v = .int .i64 ((jp : Int) + 1)
  | 12 => v = .pointer (some ⟨g, (jp + 1) * 4, none⟩)
  | 13 => v = .agg #[.string px.n, .int .i64 px.t.kind, .string px.t.name, .slice px.a px.t.kids.length px.c]
  | 14 => v = .pointer (some ⟨g, (jp + 1) * 4, none⟩)
  | 15 => ∃ zu, v = zu ∧ True
  | 16 => v = .pointer (some ⟨g, jp * 4, none⟩)
  | 17 => ∃ zu, v = zu ∧ True
  | _ => True

theorem swpVals_keep {g n cap jp : Nat} {px py : PR} (i : Nat) (v : Value) (V Y : World) (h : swpVals g n cap jp px py i v V) (_ : Y = V) : swpVals g n cap jp px py i v Y := by
  unfold swpVals at *
  split at h <;> first
    | exact h
    | (obtain ⟨zu, e, h⟩ := h; exact ⟨zu, e, h⟩)

theorem swpVals_any {g n cap jp : Nat} {px py : PR} (i : Nat) (v : Value) (V Y : World) (h : swpVals g n cap jp px py i v V) : swpVals g n cap jp px py i v Y := by
  unfold swpVals at *
  split at h <;> exact h

theorem swp_size : swpOps.size = 18 := by kernel_rfl
set_option linter.unusedSimpArgs false in
set_option maxRecDepth 100000 in
set_option maxHeartbeats 8000000 in
theorem swp_region {w : World} {g n cap jp : Nat} {ls ds : List PR} {px py : PR} (hpx : Hid (ds.getD (jp + 1) noP = px)) (hpy : Hid (ds.getD jp noP = py)) (hj : jp + 1 < ds.length) (jz : (jp : Int) + 1 < (n : Int)) (jz1 : (jp : Int) < (n : Int)) (p0 : (0 : Int) ≤ (jp : Int) + 1) (e00 : ((jp : Int) + 1).toNat = jp + 1) (hwp : IntKind.i64.wrap (jp : Int) = (jp : Int)) {b : Nat → Value} {d : List Deferred}
    (h0 : b 0 = .slice (some ⟨g, 0, none⟩) n cap) (h9 : b 9 = .int .i64 ((jp : Int) + 1))
    
    {Q : Exit → Act → World → Prop} {ops : Array Oper} (hops : ops = swpOps) (x0 : Nat → Value) (X : World) (hS : True) (hX : SrtI w g ls ds X.drew)
    (hfin : ∀ (x : Nat → Value) V, SrtI w g ls (swapL ds jp) V → Q .normal (swpFr b d x) V) : (Code.region 6 ops true).wp Tryz.prog Q (swpFr b d x0) X := by
  refine region_mark (swpFr b d) (fun V => True) (fun V Y => Y = V) (swpVals g n cap jp px py) (fun L x V => SwK w g ls ds jp L x V) (fun i => i == 9 || i == 13 || i == 15 || i == 17) x0 (by kernel_rfl) rfl hS (SwK.start hX) (fun V Y h hb => trivial) (fun i v V Y _ h hb => swpVals_keep  i v V Y h hb) (fun i L x v w' w'' hs _ hM hr => by subst hr; exact hM.keep (by simp only [Bool.or_eq_false_iff, beq_eq_false_iff_ne] at hs ⊢; exact ⟨hs.1.2, hs.2⟩) v) ?_ (fun L x V hS hall hM => hfin x V (hM.s2 (hall 17 (by rw [hops, swp_size]; decide)).1).2)
  clear hfin hS
  obtain ⟨f, hf⟩ : ∃ qq, (fun i o => ((fun i => i == 9 || i == 13 || i == 15 || i == 17) i = false → StepAt Tryz.prog (swpFr b d) (fun V => True) (fun V Y => Y = V) (swpVals g n cap jp px py) ops Q i o) ∧ ((fun i => i == 9 || i == 13 || i == 15 || i == 17) i = true → MarkAt Tryz.prog (swpFr b d) (fun V => True) (swpVals g n cap jp px py) (fun L x V => SwK w g ls ds jp L x V) ops Q i o)) = qq := ⟨_, rfl⟩
  rw [hf, hops]
  simp only [swpOps, Tryz.f80, regionIn, Option.getD_some, Nat.reduceBEq, Bool.false_eq_true, if_false, if_true, beq_self_eq_true, Array.append_empty, Array.empty_append, List.append_eq, List.cons_append, List.nil_append, AllAt, Nat.reduceAdd, Nat.zero_add]
  -- 0: slot 37 := Op.move t0
  refine And.intro ?_ ?_
  · rw [← hf]; clear hf
    refine ⟨fun _ => ⟨by decide +kernel, fun x v => by kernel_rfl, fun x V hV hdep K hK => ?_⟩, fun h => absurd h (by decide)⟩
    clear hdep
    refine run_bare (by kernel_rfl) ?_
    unfold swpFr
    go_simp
    refine kfit (hK _ _ (rfl) rfl) ?_
    first | (simp only [swpFr, Act.put, List.setIfInBounds_toArray, List.set_cons_zero, List.set_cons_succ, h0, h9]; done) | (simp only [swpFr, Act.put, List.setIfInBounds_toArray, List.set_cons_zero, List.set_cons_succ, h0, h9]; rfl)
  -- 1: slot 38 := Op.move t9
  refine And.intro ?_ ?_
  · rw [← hf]; clear hf
    refine ⟨fun _ => ⟨by decide +kernel, fun x v => by kernel_rfl, fun x V hV hdep K hK => ?_⟩, fun h => absurd h (by decide)⟩
    clear hdep
    refine run_bare (by kernel_rfl) ?_
    unfold swpFr
    go_simp
    refine kfit (hK _ _ (rfl) rfl) ?_
    first | (simp only [swpFr, Act.put, List.setIfInBounds_toArray, List.set_cons_zero, List.set_cons_succ, h0, h9]; done) | (simp only [swpFr, Act.put, List.setIfInBounds_toArray, List.set_cons_zero, List.set_cons_succ, h0, h9]; rfl)
  -- 2: slot 39 := Op.move t0
  refine And.intro ?_ ?_
  · rw [← hf]; clear hf
    refine ⟨fun _ => ⟨by decide +kernel, fun x v => by kernel_rfl, fun x V hV hdep K hK => ?_⟩, fun h => absurd h (by decide)⟩
    clear hdep
    refine run_bare (by kernel_rfl) ?_
    unfold swpFr
    go_simp
    refine kfit (hK _ _ (rfl) rfl) ?_
    first | (simp only [swpFr, Act.put, List.setIfInBounds_toArray, List.set_cons_zero, List.set_cons_succ, h0, h9]; done) | (simp only [swpFr, Act.put, List.setIfInBounds_toArray, List.set_cons_zero, List.set_cons_succ, h0, h9]; rfl)
  -- 3: slot 40 := Op.move t9
  refine And.intro ?_ ?_
  · rw [← hf]; clear hf
    refine ⟨fun _ => ⟨by decide +kernel, fun x v => by kernel_rfl, fun x V hV hdep K hK => ?_⟩, fun h => absurd h (by decide)⟩
    clear hdep
    refine run_bare (by kernel_rfl) ?_
    unfold swpFr
    go_simp
    refine kfit (hK _ _ (rfl) rfl) ?_
    first | (simp only [swpFr, Act.put, List.setIfInBounds_toArray, List.set_cons_zero, List.set_cons_succ, h0, h9]; done) | (simp only [swpFr, Act.put, List.setIfInBounds_toArray, List.set_cons_zero, List.set_cons_succ, h0, h9]; rfl)
  -- 4: slot 41 := Op.binOp BinOp.sub 3 t40 (const (1:i64)) 3
  refine And.intro ?_ ?_
  · rw [← hf]; clear hf
    refine ⟨fun _ => ⟨by decide +kernel, fun x v => by kernel_rfl, fun x V hV hdep K hK => ?_⟩, fun h => absurd h (by decide)⟩
    have e3 : x 3 = .int .i64 ((jp : Int) + 1) := depOf hdep 3 (by decide +kernel)
    clear hdep
    refine run_bare (by kernel_rfl) ?_
    unfold swpFr
    go_simp
    refine kfit (hK _ _ (rfl) rfl) ?_
    first | (simp only [swpFr, Act.put, List.setIfInBounds_toArray, List.set_cons_zero, List.set_cons_succ, h0, h9, e3]; done) | (simp only [swpFr, Act.put, List.setIfInBounds_toArray, List.set_cons_zero, List.set_cons_succ, h0, h9, e3]; rfl)
  -- 5: slot 42 := Op.move t0
  refine And.intro ?_ ?_
  · rw [← hf]; clear hf
    refine ⟨fun _ => ⟨by decide +kernel, fun x v => by kernel_rfl, fun x V hV hdep K hK => ?_⟩, fun h => absurd h (by decide)⟩
    clear hdep
    refine run_bare (by kernel_rfl) ?_
    unfold swpFr
    go_simp
    refine kfit (hK _ _ (rfl) rfl) ?_
    first | (simp only [swpFr, Act.put, List.setIfInBounds_toArray, List.set_cons_zero, List.set_cons_succ, h0, h9]; done) | (simp only [swpFr, Act.put, List.setIfInBounds_toArray, List.set_cons_zero, List.set_cons_succ, h0, h9]; rfl)
  -- 6: slot 43 := Op.move t9
  refine And.intro ?_ ?_
  · rw [← hf]; clear hf
    refine ⟨fun _ => ⟨by decide +kernel, fun x v => by kernel_rfl, fun x V hV hdep K hK => ?_⟩, fun h => absurd h (by decide)⟩
    clear hdep
    refine run_bare (by kernel_rfl) ?_
    unfold swpFr
    go_simp
    refine kfit (hK _ _ (rfl) rfl) ?_
    first | (simp only [swpFr, Act.put, List.setIfInBounds_toArray, List.set_cons_zero, List.set_cons_succ, h0, h9]; done) | (simp only [swpFr, Act.put, List.setIfInBounds_toArray, List.set_cons_zero, List.set_cons_succ, h0, h9]; rfl)
  -- 7: slot 44 := Op.binOp BinOp.sub 3 t43 (const (1:i64)) 3
  refine And.intro ?_ ?_
  · rw [← hf]; clear hf
    refine ⟨fun _ => ⟨by decide +kernel, fun x v => by kernel_rfl, fun x V hV hdep K hK => ?_⟩, fun h => absurd h (by decide)⟩
    have e6 : x 6 = .int .i64 ((jp : Int) + 1) := depOf hdep 6 (by decide +kernel)
    clear hdep
    refine run_bare (by kernel_rfl) ?_
    unfold swpFr
    go_simp
    refine kfit (hK _ _ (rfl) rfl) ?_
    first | (simp only [swpFr, Act.put, List.setIfInBounds_toArray, List.set_cons_zero, List.set_cons_succ, h0, h9, e6]; done) | (simp only [swpFr, Act.put, List.setIfInBounds_toArray, List.set_cons_zero, List.set_cons_succ, h0, h9, e6]; rfl)
  -- 8: slot 45 := Op.indexAddr 55 t42 t44
  refine And.intro ?_ ?_
  · rw [← hf]; clear hf
    refine ⟨fun _ => ⟨by decide +kernel, fun x v => by kernel_rfl, fun x V hV hdep K hK => ?_⟩, fun h => absurd h (by decide)⟩
    have e5 : x 5 = .slice (some ⟨g, 0, none⟩) n cap := depOf hdep 5 (by decide +kernel)
    have e7 : x 7 = .int .i64 (jp : Int) := depOf hdep 7 (by decide +kernel)
    clear hdep
    refine run_bare (by kernel_rfl) ?_
    unfold swpFr
    go_simp
    refine kfit (hK _ _ (rfl) rfl) ?_
    first | (simp only [swpFr, Act.put, List.setIfInBounds_toArray, List.set_cons_zero, List.set_cons_succ, h0, h9, e5, e7]; done) | (simp only [swpFr, Act.put, List.setIfInBounds_toArray, List.set_cons_zero, List.set_cons_succ, h0, h9, e5, e7]; rfl)
  -- 9: slot 46 := Op.load 60 t45
  refine And.intro ?_ ?_
  · rw [← hf]; clear hf
    refine ⟨fun h => absurd h (by decide), fun _ => ⟨by decide +kernel, fun x v => by kernel_rfl, fun L x V hV hVs hMk hLi hdep K hK => ?_⟩⟩
    have e8 : x 8 = .pointer (some ⟨g, jp * 4, none⟩) := hVs 8 (depL hdep 8 (by decide +kernel))
    have hr := hMk.row0 (.inl hLi)
    obtain ⟨c0, c1, c2, c3⟩ := hr.2.1.cells (i := jp) (by omega)
    rw [hpy.out] at c0 c1 c2 c3
    refine run_bare (by kernel_rfl) ?_
    have H := Lib.hid (fun v => hMk.keep (i := 9) rfl v)
    have HVs := Lib.hid hVs
    clear hVs hMk hdep hr
    unfold swpFr at hK ⊢
    go_simp
    refine kfit (hK _ _ trivial HVs.out rfl (H.out _)) ?_
    first | (simp only [Act.put, List.setIfInBounds_toArray, List.set_cons_zero, List.set_cons_succ, h0, h9, e8]; done) | (simp only [Act.put, List.setIfInBounds_toArray, List.set_cons_zero, List.set_cons_succ, h0, h9, e8]; rfl)
  -- 10: slot 47 := Op.move t0
  refine And.intro ?_ ?_
  · rw [← hf]; clear hf
    refine ⟨fun _ => ⟨by decide +kernel, fun x v => by kernel_rfl, fun x V hV hdep K hK => ?_⟩, fun h => absurd h (by decide)⟩
    clear hdep
    refine run_bare (by kernel_rfl) ?_
    unfold swpFr
    go_simp
    refine kfit (hK _ _ (rfl) rfl) ?_
    first | (simp only [swpFr, Act.put, List.setIfInBounds_toArray, List.set_cons_zero, List.set_cons_succ, h0, h9]; done) | (simp only [swpFr, Act.put, List.setIfInBounds_toArray, List.set_cons_zero, List.set_cons_succ, h0, h9]; rfl)
  -- 11: slot 48 := Op.move t9
  refine And.intro ?_ ?_
  · rw [← hf]; clear hf
    refine ⟨fun _ => ⟨by decide +kernel, fun x v => by kernel_rfl, fun x V hV hdep K hK => ?_⟩, fun h => absurd h (by decide)⟩
    clear hdep
    refine run_bare (by kernel_rfl) ?_
    unfold swpFr
    go_simp
    refine kfit (hK _ _ (rfl) rfl) ?_
    first | (simp only [swpFr, Act.put, List.setIfInBounds_toArray, List.set_cons_zero, List.set_cons_succ, h0, h9]; done) | (simp only [swpFr, Act.put, List.setIfInBounds_toArray, List.set_cons_zero, List.set_cons_succ, h0, h9]; rfl)
  -- 12: slot 49 := Op.indexAddr 55 t47 t48
  refine And.intro ?_ ?_
  · rw [← hf]; clear hf
    refine ⟨fun _ => ⟨by decide +kernel, fun x v => by kernel_rfl, fun x V hV hdep K hK => ?_⟩, fun h => absurd h (by decide)⟩
    have e10 : x 10 = .slice (some ⟨g, 0, none⟩) n cap := depOf hdep 10 (by decide +kernel)
    have e11 : x 11 = .int .i64 ((jp : Int) + 1) := depOf hdep 11 (by decide +kernel)
    clear hdep
    refine run_bare (by kernel_rfl) ?_
    unfold swpFr
    go_simp
    refine kfit (hK _ _ (rfl) rfl) ?_
    first | (simp only [swpFr, Act.put, List.setIfInBounds_toArray, List.set_cons_zero, List.set_cons_succ, h0, h9, e10, e11]; done) | (simp only [swpFr, Act.put, List.setIfInBounds_toArray, List.set_cons_zero, List.set_cons_succ, h0, h9, e10, e11]; rfl)
  -- 13: slot 50 := Op.load 60 t49
  refine And.intro ?_ ?_
  · rw [← hf]; clear hf
    refine ⟨fun h => absurd h (by decide), fun _ => ⟨by decide +kernel, fun x v => by kernel_rfl, fun L x V hV hVs hMk hLi hdep K hK => ?_⟩⟩
    have e12 : x 12 = .pointer (some ⟨g, (jp + 1) * 4, none⟩) := hVs 12 (depL hdep 12 (by decide +kernel))
    have hr := hMk.row0 (.inr hLi)
    obtain ⟨c0, c1, c2, c3⟩ := hr.2.1.cells (i := jp + 1) (by omega)
    rw [hpx.out] at c0 c1 c2 c3
    refine run_bare (by kernel_rfl) ?_
    have H := Lib.hid (fun v => hMk.keep (i := 13) rfl v)
    have HVs := Lib.hid hVs
    clear hVs hMk hdep hr
    unfold swpFr at hK ⊢
    go_simp
    refine kfit (hK _ _ trivial HVs.out rfl (H.out _)) ?_
    first | (simp only [Act.put, List.setIfInBounds_toArray, List.set_cons_zero, List.set_cons_succ, h0, h9, e12]; done) | (simp only [Act.put, List.setIfInBounds_toArray, List.set_cons_zero, List.set_cons_succ, h0, h9, e12]; rfl)
  -- 14: slot 51 := Op.indexAddr 55 t37 t38
  refine And.intro ?_ ?_
  · rw [← hf]; clear hf
    refine ⟨fun _ => ⟨by decide +kernel, fun x v => by kernel_rfl, fun x V hV hdep K hK => ?_⟩, fun h => absurd h (by decide)⟩
    have e0 : x 0 = .slice (some ⟨g, 0, none⟩) n cap := depOf hdep 0 (by decide +kernel)
    have e1 : x 1 = .int .i64 ((jp : Int) + 1) := depOf hdep 1 (by decide +kernel)
    clear hdep
    refine run_bare (by kernel_rfl) ?_
    unfold swpFr
    go_simp
    refine kfit (hK _ _ (rfl) rfl) ?_
    first | (simp only [swpFr, Act.put, List.setIfInBounds_toArray, List.set_cons_zero, List.set_cons_succ, h0, h9, e0, e1]; done) | (simp only [swpFr, Act.put, List.setIfInBounds_toArray, List.set_cons_zero, List.set_cons_succ, h0, h9, e0, e1]; rfl)
  -- 15: slot none := Op.store 60 t51 t46
  refine And.intro ?_ ?_
  · rw [← hf]; clear hf
    refine ⟨fun h => absurd h (by decide), fun _ => ⟨by decide +kernel, fun x v => by kernel_rfl, fun L x V hV hVs hMk hLi hdep K hK => ?_⟩⟩
    have q9 := depL hdep 9 (by decide +kernel)
    have q13 := depL hdep 13 (by decide +kernel)
    have e14 : x 14 = .pointer (some ⟨g, (jp + 1) * 4, none⟩) := hVs 14 (depL hdep 14 (by decide +kernel))
    have e9 : x 9 = .agg #[.string py.n, .int .i64 py.t.kind, .string py.t.name, .slice py.a py.t.kids.length py.c] := hVs 9 q9
    have hr := (hMk.s0 hLi).2.1
    obtain ⟨c0, c1, c2, c3⟩ := hr.cells (i := jp + 1) hj
    have z0 := hr.free' ((jp + 1) * 4); have z1 := hr.free' ((jp + 1) * 4 + 1); have z2 := hr.free' ((jp + 1) * 4 + 2); have z3 := hr.free' ((jp + 1) * 4 + 3)
    refine run_bare (by kernel_rfl) ?_
    have H := hMk.st1 hLi q9 q13
    rw [hpy.out] at H
    have H := Lib.hid H
    have HVs := Lib.hid hVs
    clear hVs hMk hdep hr
    unfold swpFr at hK ⊢
    unfold set4 at H
    go_simp
    refine kfit (hK undef _ trivial (fun j hj => swpVals_any j _ V _ (HVs.out j hj)) ⟨undef, rfl, trivial⟩ (H.out undef)) ?_
    first | (simp only [Act.put, List.setIfInBounds_toArray, List.set_cons_zero, List.set_cons_succ, h0, h9, e9, e14]; done) | (simp only [Act.put, List.setIfInBounds_toArray, List.set_cons_zero, List.set_cons_succ, h0, h9, e9, e14]; rfl)
  -- 16: slot 52 := Op.indexAddr 55 t39 t41
  refine And.intro ?_ ?_
  · rw [← hf]; clear hf
    refine ⟨fun _ => ⟨by decide +kernel, fun x v => by kernel_rfl, fun x V hV hdep K hK => ?_⟩, fun h => absurd h (by decide)⟩
    have e2 : x 2 = .slice (some ⟨g, 0, none⟩) n cap := depOf hdep 2 (by decide +kernel)
    have e4 : x 4 = .int .i64 (jp : Int) := depOf hdep 4 (by decide +kernel)
    clear hdep
    refine run_bare (by kernel_rfl) ?_
    unfold swpFr
    go_simp
    refine kfit (hK _ _ (rfl) rfl) ?_
    first | (simp only [swpFr, Act.put, List.setIfInBounds_toArray, List.set_cons_zero, List.set_cons_succ, h0, h9, e2, e4]; done) | (simp only [swpFr, Act.put, List.setIfInBounds_toArray, List.set_cons_zero, List.set_cons_succ, h0, h9, e2, e4]; rfl)
  -- 17: slot none := Op.store 60 t52 t50
  refine And.intro ?_ ?_
  · rw [← hf]; clear hf
    refine ⟨fun h => absurd h (by decide), fun _ => ⟨by decide +kernel, fun x v => by kernel_rfl, fun L x V hV hVs hMk hLi hdep K hK => ?_⟩⟩
    have q13 := depL hdep 13 (by decide +kernel)
    have q15 := depL hdep 15 (by decide +kernel)
    have e16 : x 16 = .pointer (some ⟨g, jp * 4, none⟩) := hVs 16 (depL hdep 16 (by decide +kernel))
    have e13 : x 13 = .agg #[.string px.n, .int .i64 px.t.kind, .string px.t.name, .slice px.a px.t.kids.length px.c] := hVs 13 q13
    have hr := hMk.row1 hLi q15
    obtain ⟨c0, c1, c2, c3⟩ := hr.cells (i := jp) (by simp; omega)
    have z0 := hr.free' (jp * 4); have z1 := hr.free' (jp * 4 + 1); have z2 := hr.free' (jp * 4 + 2); have z3 := hr.free' (jp * 4 + 3)
    refine run_bare (by kernel_rfl) ?_
    have H := hMk.st2 hj hLi q15
    rw [hpx.out] at H
    have H := Lib.hid H
    have HVs := Lib.hid hVs
    clear hVs hMk hdep hr
    unfold swpFr at hK ⊢
    unfold set4 at H
    go_simp
    refine kfit (hK undef _ trivial (fun j hj => swpVals_any j _ V _ (HVs.out j hj)) ⟨undef, rfl, trivial⟩ (H.out undef)) ?_
    first | (simp only [Act.put, List.setIfInBounds_toArray, List.set_cons_zero, List.set_cons_succ, h0, h9, e13, e16]; done) | (simp only [Act.put, List.setIfInBounds_toArray, List.set_cons_zero, List.set_cons_succ, h0, h9, e13, e16]; rfl)
  exact trivial
theorem swp_here {w : World} {g n cap jp : Nat} {ls ds : List PR} {px py : PR} (hpx : Hid (ds.getD (jp + 1) noP = px)) (hpy : Hid (ds.getD jp noP = py)) (hj : jp + 1 < ds.length) (jz : (jp : Int) + 1 < (n : Int)) (jz1 : (jp : Int) < (n : Int)) (p0 : (0 : Int) ≤ (jp : Int) + 1) (e00 : ((jp : Int) + 1).toNat = jp + 1) (hwp : IntKind.i64.wrap (jp : Int) = (jp : Int))
    
    {Q : Exit → Act → World → Prop} {ops : Array Oper} {a : Act} (X : World) (hops : ops = swpOps)
    (h0 : a.tmps.getD 0 undef = .slice (some ⟨g, 0, none⟩) n cap) (h9 : a.tmps.getD 9 undef = .int .i64 ((jp : Int) + 1))
    (ha : a = swpFr (fun j => a.tmps.getD j undef) a.defers (fun i => a.tmps.getD (if i = 16 then 52 else 37 + i) undef)) (hS : True) (hX : SrtI w g ls ds X.drew)
    (hfin : ∀ (x : Nat → Value) V, SrtI w g ls (swapL ds jp) V → Q .normal (swpFr (fun j => a.tmps.getD j undef) a.defers x) V) : (Code.region 6 ops true).wp Tryz.prog Q a X :=
  cast (congrArg (fun z => (Code.region 6 ops true).wp Tryz.prog Q z X) ha.symm) (swp_region hpx hpy hj jz jz1 p0 e00 hwp (b := fun j => a.tmps.getD j undef) (d := a.defers) h0 h9  hops _ X hS hX hfin)
end Go.Proofs.YtjnlchhikdfifaaGreatDoor
/- A row of predicates is sorted by insertion: slices.insertionSortCmpFunc. -/
namespace Go.Proofs.YtjnlchhikdfifaaGreatDoor
open Go.RowKit Go.Sort Go.Lib
attribute [local go_sem] Oper.semAt_some

set_option maxRecDepth 100000 in
set_option maxHeartbeats 4000000 in
theorem insQ_any (g cap : Nat) (l : List PR) (w : World) (h : RowG 55 g l w) (ht : Typ l w) (hf : FitsAll l) (hl : l.length ≤ 1000000) :
    Calls Tryz.prog 80 #[.slice (some ⟨g, 0, none⟩) l.length cap, .int .i64 0, .int .i64 (l.length : Int), .func (.func 44) #[] #[]] w fun e w' =>
      e = .returned (.tuple #[]) ∧ ∃ d, LeTo d.length d ∧ SrtI w g l d w' := by
  have HCmp := Lib.hid (fun (d : List PR) (wr : World) (hs : SrtI w g l d wr) (i j : Nat) (hi : i < d.length) (hj : j < d.length) => (show Calls Tryz.prog 44 #[pairV (d.getD i noP), pairV (d.getD j noP)] wr fun e w' => e = .returned (.int .i64 (cmpR (d.getD i noP) (d.getD j noP))) ∧ Below wr.heap.size wr w' from
    have hk := h.keepT (by decide) hs.2.2
    cmpQ_any _ _ wr (hf _ ((hs.1.2 _).1 (getD_memR hi))) ((ht _ ((hs.1.2 _).1 (getD_memR hi))).keep hk) ((ht _ ((hs.1.2 _).1 (getD_memR hj))).keep hk)))
  have HS0 := Lib.hid (show SrtI w g l l w from ⟨⟨rfl, fun _ => Iff.rfl⟩, h, Fr.refl _ _⟩)
  clear h ht hf
  go_enter Tryz.func80, Tryz.ntmps80
  go_wp2
  go_loopw [8] (fun vi wr => ∃ (i : Nat) (d : List PR), i ≤ l.length + 1 ∧ vi = .int .i64 i ∧ Hid (1 ≤ i ∧ LeTo i d) ∧ Hid (SrtI w g l d wr)) (fun vi _ => l.length + 1 - (intOf vi).toNat)
  case atStart => exact ⟨1, l, by omega, by go_num, Lib.hid ⟨Nat.le_refl _, fun p q h1 h2 => by omega⟩, HS0⟩
  case round =>
    obtain ⟨i, d, hi, rfl, hL, hS⟩ := hrel
    by_cases hlt : i < l.length
    · have hltI : (i : Int) < (l.length : Int) := by omega
      have HI0 := Lib.hid (InsI.start hL.out.2)
      go_wp2
      go_loopw [9] (fun vj wr => ∃ (j : Nat) (d : List PR), j ≤ i ∧ vj = .int .i64 j ∧ Hid (InsI i j d) ∧ Hid (SrtI w g l d wr)) (fun vj _ => (intOf vj).toNat)
      case atStart => exact ⟨i, d, Nat.le_refl _, rfl, HI0, hS⟩
      case round =>
        obtain ⟨j, d, hj, rfl, hI, hS⟩ := hrel
        have hlen := hS.out.1.1
        have OUT := Lib.hid (fun (h : j = 0 ∨ 0 ≤ cmpR (d.getD j noP) (d.getD (j - 1) noP)) => hI.out.stop h)
        clear HI0
        by_cases hj0 : 0 < j
        · obtain ⟨jp, rfl⟩ : ∃ jp, j = jp + 1 := ⟨j - 1, by omega⟩
          have jz0 : (0 : Int) < (jp : Int) + 1 := by omega
          have jz : (jp : Int) + 1 < (l.length : Int) := by omega
          have jz1 : (jp : Int) < (l.length : Int) := by omega
          have p0 : (0 : Int) ≤ (jp : Int) + 1 := by omega
          have e0 : ((jp : Int) + 1).toNat = jp + 1 := by omega
          have hwp : IntKind.i64.wrap (jp : Int) = (jp : Int) := by rw [IntKind.wrap_i64]; omega
          obtain ⟨x0, x1, x2, x3⟩ := hS.out.2.1.cells (i := jp + 1) (by omega)
          obtain ⟨y0, y1, y2, y3⟩ := hS.out.2.1.cells (i := jp) (by omega)
          have X0 := cell_regrown x0; have X1 := cell_regrown x1; have X2 := cell_regrown x2; have X3 := cell_regrown x3
          have Y0 := cell_regrown y0; have Y1 := cell_regrown y1; have Y2 := cell_regrown y2; have Y3 := cell_regrown y3
          have HC := Lib.hid (fun dd os => Calls.regrown_of (HCmp.out d _ (hS.out.below (below_regrown wr dd os)) (jp + 1) jp (by omega) (by omega)))
          have HSt := Lib.hid (fun (h : cmpR (d.getD (jp + 1) noP) (d.getD jp noP) ≤ 0) => hI.out.step (by omega) h)
          have HSw := Lib.hid (fun (Y : World) (h : SrtI w g l d Y) => h.swap (j := jp) (by omega))
          have HCe := Lib.hid (fun (Y : World) (h : SrtI w g l d Y) => (And.intro (h.2.1.cells (i := jp + 1) (by omega)) (h.2.1.cells (i := jp) (by omega))))
          have HO := Lib.hid (fun (h : 0 ≤ cmpR (d.getD (jp + 1) noP) (d.getD jp noP)) => OUT.out (.inr h))
          clear OUT x0 x1 x2 x3 y0 y1 y2 y3
          generalize hxx : d.getD (jp + 1) noP = x at *
          generalize hyy : d.getD jp noP = y at *
          have HXX := Lib.hid hxx; have HYY := Lib.hid hyy
          clear hxx hyy
          obtain ⟨r, hr⟩ : ∃ r, cmpR x y = r := ⟨_, rfl⟩
          rw [hr] at HC HSt HO
          simp only [pairV] at HC
          clear hr
          have hH := HC.out
          by_cases hlv : r < 0
          · go_wp2_with fail
            refine wp_region_quiet_below (by kernel_rfl) (by kernel_rfl) ?_
            repeat (quiet_step (first | exact hH _ _ | (go_at_fn 44; exact hH _ _)))
            refine wpQuiet_nil ?_
            intro _ hw'
            obtain ⟨⟨dq, osq⟩, hw''⟩ := hw'
            subst hw''
            have HS5 := Lib.hid (hS.out.below (below_regrown wr dq osq))
            clear X0 X1 X2 X3 Y0 Y1 Y2 Y3 hH HC HCe HSw
            generalize grow (redrawn wr dq) osq = wr5 at *
            go_wp2_with fail
            refine swp_here (w := w) (g := g) (n := l.length) (cap := cap) (jp := jp) (ls := l) (ds := d) (px := x) (py := y) HXX HYY (by omega) jz jz1 p0 e0 hwp _ (by kernel_rfl) (by kernel_rfl) (by kernel_rfl) (by kernel_rfl) trivial (HS5.out.below (below_d _)) ?_
            intro xx V hV
            have HEnd := Lib.hid hV
            clear hV HS5
            simp only [swpFr]
            simp only [Array.getD_eq_getD_getElem?, List.getElem?_toArray, List.getElem?_cons_zero, List.getElem?_cons_succ, Option.getD_some]
            go_wp2_with fail
            go_roundw
            case rel => exact ⟨jp, swapL d jp, by omega, by go_num, Lib.hid (HSt.out (by omega)), HEnd⟩
            case measure => simp [intOf]
          · go_wp2_with fail
            refine wp_region_quiet_below (by kernel_rfl) (by kernel_rfl) ?_
            repeat (quiet_step (first | exact hH _ _ | (go_at_fn 44; exact hH _ _)))
            refine wpQuiet_nil ?_
            intro _ hw'
            obtain ⟨⟨dq, osq⟩, hw''⟩ := hw'
            subst hw''
            have HS5 := Lib.hid (hS.out.below (below_regrown wr dq osq))
            clear X0 X1 X2 X3 Y0 Y1 Y2 Y3 hH HC HCe
            generalize grow (redrawn wr dq) osq = wr5 at *
            go_wp2_with fail
            go_roundw
            case rel => exact ⟨i + 1, d, by omega, by go_num, Lib.hid ⟨by omega, HO.out (by omega)⟩, HS5⟩
            case measure => simp [intOf]; omega
        · have hjz : ¬ (0 : Int) < (j : Int) := by omega
          have hjd : decide ((j : Int) > (0 : Int)) = false := decide_eq_false (by omega)
          have HS5 := Lib.hid (hS.out.below (below_d wr))
          go_wp2_with fail
          go_region
          all_goals
            go_wp2_with fail
            go_roundw
          case rel => exact ⟨i + 1, d, by omega, by go_num, Lib.hid ⟨by omega, OUT.out (.inl (by omega))⟩, HS5⟩
          case measure => simp [intOf]; omega
    · have hltI : ¬ (i : Int) < (l.length : Int) := by omega
      have HE := Lib.hid (show ∃ d, LeTo d.length d ∧ SrtI w g l d _ from ⟨d, by rw [hS.out.1.1]; exact fun p q h1 h2 => hL.out.2 p q h1 (by omega), hS.out⟩)
      go_wp2_with fail
      go_end0
      exact ⟨rfl, HE.out⟩
end Go.Proofs.YtjnlchhikdfifaaGreatDoor
/- slices.CompactFunc of a row of predicates. -/
namespace Go.Proofs.YtjnlchhikdfifaaGreatDoor
open Go.RowKit Go.Sort Go.Lib
attribute [local go_sem] Oper.semAt_some

def kpQ (d : Array PR) (j : Nat) : Bool := decide (j = 0 ∨ cmpR d[j]! d[j - 1]! ≠ 0)
theorem kpQ_true {d : Array PR} {j : Nat} (h : j = 0 ∨ cmpR d[j]! d[j - 1]! ≠ 0) : kpQ d j = true := decide_eq_true h
theorem kpQ_false {d : Array PR} {j : Nat} (h : ¬ (j = 0 ∨ cmpR d[j]! d[j - 1]! ≠ 0)) : kpQ d j = false := decide_eq_false h
theorem bang_memR {d : Array PR} {j : Nat} (h : j < d.size) : d[j]! ∈ d.toList := by
  rw [← getD_bang d j h]; exact getD_memR (by simpa using h)
theorem RowG.take' {T : TypeId} {g : Nat} {l : List PR} {w : World} (h : RowG T g l w) (k : Nat) : RowG T g (l.take k) w := by
  obtain ⟨cs, h1, h2, h3⟩ := h
  have hl : (l.take k).length ≤ l.length := by simp; omega
  refine ⟨cs, h1, by omega, fun i hi => ?_⟩
  have e : (l.take k).getD i noP = l.getD i noP := by
    have : i < k := by simp at hi; omega
    simp [List.getD, this]
  rw [e]
  exact h3 i (by omega)
theorem RowG.of_eq' {T : TypeId} {g : Nat} {l m : List PR} {w : World} (h : RowG T g l w) (e : l = m) : RowG T g m w := e ▸ h
theorem RowG.setCells {T : TypeId} {g : Nat} {l : List PR} {w : World} (h : RowG T g l w) (k : Nat) (hk : k ≤ l.length) (vs : List Value) : RowG T g (l.take k) (w.setCells g (k * 4) vs) := by
  obtain ⟨cs, h1, h2, h3⟩ := h.take' k
  obtain ⟨cs', e1, e2, e3⟩ := block_setCells g vs (k * 4) w cs h1
  refine ⟨cs', e1, by omega, fun i hi => ?_⟩
  have hik : i < k := by simp at hi; omega
  rw [e3 _ (by omega), e3 _ (by omega), e3 _ (by omega), e3 _ (by omega)]
  exact h3 i hi
theorem run_clearQ (w : World) (g k : Nat) (l : List PR) (h : RowG 55 g l w) (hk : k < l.length) (c : Nat) (ty : TypeId) :
    (Builtin.clear_ #[28] ty #[.slice (some ⟨g, k * 4, none⟩) (l.length - k) c]).run Tryz.prog w = .ok (.tuple #[]) (w.setCells g (k * 4) (Builtin.zeroCells zeroP (l.length - k)).toList) := by
  have hz : ∀ w, (zeroValue 55).run Tryz.prog w = .ok (.agg zeroP) w := fun _ => by kernel_rfl
  have hlen : (Builtin.zeroCells zeroP (l.length - k)).toList.length = (l.length - k) * 4 := by simp [Builtin.zeroCells, zeroP]
  obtain ⟨cs, h1, h2, _⟩ := h
  have hst := run_storeCells_cells (P := Tryz.prog) g (k * 4) (Builtin.zeroCells zeroP (l.length - k)).toList 0 w (fun j hj => by rw [hlen] at hj; rw [Lib.cell_of_heap h1, Array.getElem?_eq_getElem (by omega)]; rfl) (fun j _ => Lib.frozen_of_heap h1 _) (zeroCells_one _)
  simp only [Nat.add_zero] at hst
  obtain ⟨m, hm⟩ : ∃ m, l.length - k = m + 1 := ⟨l.length - k - 1, by omega⟩
  rw [hm] at hst ⊢
  simp [Builtin.clear_, run_underlying (Tryz.underlying28), hz, Value.cells, hst]

set_option maxRecDepth 100000 in
set_option maxHeartbeats 4000000 in
theorem compactQ_any (g cap : Nat) (d : List PR) (w : World) (h : RowG 55 g d w) (ht : Typ d w) (hf : FitsAll d) (hc : d.length ≤ cap) (hl : d.length < 1152921504606846976) (h0 : d ≠ []) :
    Calls Tryz.prog 45 #[.slice (some ⟨g, 0, none⟩) d.length cap, .func (.func 46) #[] #[]] w fun e w' =>
      e = .returned (.slice (some ⟨g, 0, none⟩) (keptUpTo (kpQ d.toArray) d.toArray d.length).length cap) ∧ RowG 55 g (keptUpTo (kpQ d.toArray) d.toArray d.length) w' ∧ Fr g w w' := by
  have HH := Lib.hid h
  have HQQ := Lib.hid (fun (x y : PR) (hx : x ∈ d) (hy : y ∈ d) (W : World) (hW : Fr g w W) => (show Calls Tryz.prog 46 #[pairV x, pairV y] W fun e w' => e = .returned (.bool (cmpR x y == 0)) ∧ Below W.heap.size W w' from
    have hk := h.keepT (by decide) hW
    sameQ_any x y W (hf x hx) ((ht x hx).keep hk) ((ht y hy).keep hk)))
  clear ht hf
  have hpos : 0 < d.length := List.length_pos_iff.2 h0
  obtain ⟨A, hA⟩ : ∃ A, d.toArray = A := ⟨_, rfl⟩
  have hAs : A.size = d.length := by rw [← hA]; simp
  have hAl : A.toList = d := by rw [← hA]
  rw [hA]
  have HA := Lib.hid hAl
  clear h hA hAl h0
  by_cases h2 : d.length < 2
  · have h1 : d.length = 1 := by omega
    have hk : keptUpTo (kpQ A) A 1 = d := by
      have : keptUpTo (kpQ A) A 1 = [A[0]!] := by rw [keptUpTo_succ, kpQ_true (.inl rfl)]; rfl
      rw [this, ← getD_bang A 0 (by omega), HA.out]
      match d, h1 with
      | [x], _ => rfl
    rw [h1, hk]
    clear hk
    rw [h1] at *
    go_enter Tryz.func45, Tryz.ntmps45
    go_wp2
    go_ret
    exact ⟨rfl, HH.out, Fr.refl _ _⟩
  · have h2i : ¬ ((d.length : Int) < 2) := by omega
    obtain ⟨res, hres⟩ : ∃ r, keptUpTo (kpQ A) A d.length = r := ⟨_, rfl⟩
    have HR := Lib.hid hres
    rw [hres]
    clear hres
    go_enter Tryz.func45, Tryz.ntmps45
    go_wp2
    go_loopw [5] (fun vk wr => ∃ k : Nat, (1 ≤ k ∧ k ≤ d.length) ∧ vk = .int .i64 k ∧ Hid (Below w.heap.size w wr) ∧ Hid (∀ j, j < k → kpQ A j = true)) (fun vk _ => d.length - (intOf vk).toNat)
    case atStart => exact ⟨1, ⟨Nat.le_refl _, by omega⟩, rfl, Lib.hid (Below.refl _ _), Lib.hid fun j hj => kpQ_true (.inl (by omega))⟩
    case round =>
      obtain ⟨k, ⟨hk1, hk⟩, rfl, hB, hall⟩ := hrel
      by_cases hlt : k < d.length
      · obtain ⟨q, rfl⟩ : ∃ q, k = q + 1 := ⟨k - 1, by omega⟩
        have HRr := Lib.hid (HH.out.below hB.out)
        obtain ⟨x0, x1, x2, x3⟩ := HRr.out.cells hlt
        obtain ⟨y0, y1, y2, y3⟩ := HRr.out.cells (i := q) (by omega)
        have e1 : d.getD (q + 1) noP = A[q + 1]! := by rw [← HA.out]; exact getD_bang A _ (by omega)
        have e2 : d.getD q noP = A[q]! := by rw [← HA.out]; exact getD_bang A _ (by omega)
        have HK := Lib.hid (show (cmpR (d.getD (q + 1) noP) (d.getD q noP) == 0) = (cmpR A[q + 1]! A[q]! == 0) by rw [e1, e2])
        have HC := Lib.hid (fun dd os => Calls.regrown_of (HQQ.out (d.getD (q + 1) noP) (d.getD q noP) (getD_memR hlt) (getD_memR (by omega)) _ ((Fr.of_below (g := g) hB.out).trans (Fr.of_below (below_regrown wr dd os)))))
        have X0 := cell_regrown x0; have X1 := cell_regrown x1; have X2 := cell_regrown x2; have X3 := cell_regrown x3
        have Y0 := cell_regrown y0; have Y1 := cell_regrown y1; have Y2 := cell_regrown y2; have Y3 := cell_regrown y3
        clear x0 x1 x2 x3 y0 y1 y2 y3
        clear e1 e2
        generalize d.getD (q + 1) noP = x at *
        generalize d.getD q noP = y at *
        simp only [pairV] at HC
        obtain ⟨bb, hbb⟩ : ∃ b, (cmpR x y == 0) = b := ⟨_, rfl⟩
        rw [hbb] at HC HK
        clear hbb
        have hwp : IntKind.i64.wrap (q : Int) = (q : Int) := by rw [IntKind.wrap_i64]; omega
        have hwp2 : IntKind.i64.wrap (((q + 1 : Nat) : Int) - 1) = (q : Int) := by rw [IntKind.wrap_i64]; omega
        have jz : (q : Int) + 1 < (d.length : Int) := by omega
        have jz1 : (q : Int) < (d.length : Int) := by omega
        have p0 : (0 : Int) ≤ (q : Int) + 1 := by omega
        have e0 : ((q : Int) + 1).toNat = q + 1 := by omega
        have hH := HC.out
        go_wp2_with fail
        refine wp_region_quiet_below (by kernel_rfl) (by kernel_rfl) ?_
        repeat (quiet_step (first | exact hH _ _ | (go_at_fn 46; exact hH _ _)))
        refine wpQuiet_nil ?_
        intro _ hw'
        obtain ⟨⟨dq, osq⟩, hw''⟩ := hw'
        subst hw''
        have HB2 := Lib.hid (below_regrown wr dq osq)
        clear X0 X1 X2 X3 Y0 Y1 Y2 Y3 hH HC
        generalize grow (redrawn wr dq) osq = wr5 at *
        cases bb with
        | true =>
            have HD := Lib.hid (show cmpR A[q + 1]! A[q]! = 0 from by have := HK.out; simpa using this.symm)
            have HFr := Lib.hid ((Fr.of_below (g := g) hB.out).trans (Fr.of_below HB2.out))
            have HRw := Lib.hid (HRr.out.below HB2.out)
            clear HK hB HB2 HRr
            have hjc : (q : Int) + 1 ≤ (cap : Int) := by omega
            go_wp2
            generalize hm2 : d.length - (q + 1) = m2
            generalize cap - (q + 1) = c2
            go_loopw [5, 7] (fun vk vk2 wr => ∃ (k k2 : Nat) (dk : Array PR), (1 ≤ k2 ∧ q + 1 + k2 ≤ d.length) ∧ vk = .int .i64 k ∧ vk2 = .int .i64 k2 ∧ Hid (KeptInv (kpQ A) A (q + 1 + k2) k dk) ∧ Hid (RowG 55 g dk.toList wr) ∧ Hid (Fr g w wr)) (fun _ vk2 _ => d.length - (intOf vk2).toNat)
            case atStart =>
              refine ⟨q + 1, 1, A, ⟨Nat.le_refl _, by omega⟩, by go_num, by go_num, Lib.hid (KeptInv.start hall.out (kpQ_false ?_)), Lib.hid (by rw [HA.out]; exact HRw.out), HFr⟩
              rintro (h | h)
              · omega
              · exact h (by simpa using HD.out)
            case round =>
              obtain ⟨k, k2, dk, ⟨hk21, hk2⟩, rfl, rfl, hI, hRow, hF⟩ := hrel
              have hsz : dk.size = d.length := hI.out.size.trans hAs
              have hkm := hI.out.lt
              by_cases hlt2 : k2 < m2
              · obtain ⟨r, rfl⟩ : ∃ r, k2 = r + 1 := ⟨k2 - 1, by omega⟩
                have hlt3 : q + 1 + (r + 1) < d.length := by omega
                obtain ⟨x0, x1, x2, x3⟩ := hRow.out.cells (i := q + 1 + (r + 1)) (by simp; omega)
                obtain ⟨y0, y1, y2, y3⟩ := hRow.out.cells (i := q + 1 + r) (by simp; omega)
                have e1 : dk.toList.getD (q + 1 + (r + 1)) noP = A[q + 1 + (r + 1)]! := by rw [getD_bang dk _ (by omega)]; exact hI.out.high _ (by omega)
                have e2 : dk.toList.getD (q + 1 + r) noP = A[q + 1 + r]! := by rw [getD_bang dk _ (by omega)]; exact hI.out.high _ (by omega)
                rw [e1] at x0 x1 x2 x3
                rw [e2] at y0 y1 y2 y3
                have ea : (q + 1 + (r + 1)) * 4 = (q + 1) * 4 + (r + 1) * 4 := by omega
                have eb : (q + 1 + r) * 4 = (q + 1) * 4 + r * 4 := by omega
                rw [ea] at x0 x1 x2 x3
                rw [eb] at y0 y1 y2 y3
                have HC := Lib.hid (fun dd os => Calls.regrown_of (HQQ.out A[q + 1 + (r + 1)]! A[q + 1 + r]! (by rw [← HA.out]; exact bang_memR (by omega)) (by rw [← HA.out]; exact bang_memR (by omega)) _ (hF.out.trans (Fr.of_below (below_regrown wr dd os)))))
                have X0 := cell_regrown x0; have X1 := cell_regrown x1; have X2 := cell_regrown x2; have X3 := cell_regrown x3
                have Y0 := cell_regrown y0; have Y1 := cell_regrown y1; have Y2 := cell_regrown y2; have Y3 := cell_regrown y3
                clear x0 x1 x2 x3 y0 y1 y2 y3
                have HKt := Lib.hid (fun (h : ¬ cmpR A[q + 1 + (r + 1)]! A[q + 1 + r]! = 0) => hI.out.keep (by omega) (kpQ_true (d := A) (j := q + 1 + (r + 1)) (.inr fun e => h (by simpa using e))))
                have HKf := Lib.hid (fun (h : cmpR A[q + 1 + (r + 1)]! A[q + 1 + r]! = 0) => hI.out.skip (kpQ_false (d := A) (j := q + 1 + (r + 1)) (by rintro (h' | h'); omega; exact h' (by simpa using h))))
                have HX := Lib.hid (fun (W : World) (h : Below wr.heap.size wr W) => (hRow.out.below h).cells (i := q + 1 + (r + 1)) (by simp; omega))
                rw [e1, ea] at HX
                clear e1 e2 ea eb
                generalize A[q + 1 + (r + 1)]! = x' at *
                generalize A[q + 1 + r]! = y' at *
                simp only [pairV] at HC
                obtain ⟨bb, hbb⟩ : ∃ b, (cmpR x' y' == 0) = b := ⟨_, rfl⟩
                rw [hbb] at HC
                have HE := Lib.hid hbb
                clear hbb
                have hwp3 : IntKind.i64.wrap (r : Int) = (r : Int) := by rw [IntKind.wrap_i64]; omega
                have hwp4 : IntKind.i64.wrap (((r + 1 : Nat) : Int) - 1) = (r : Int) := by rw [IntKind.wrap_i64]; omega
                have jz3 : (r : Int) + 1 < (m2 : Int) := by omega
                have jz4 : (r : Int) < (m2 : Int) := by omega
                have p3 : (0 : Int) ≤ (r : Int) + 1 := by omega
                have e3 : ((r : Int) + 1).toNat = r + 1 := by omega
                have kz : (k : Int) < (d.length : Int) := by omega
                have hH := HC.out
                go_wp2_with fail
                refine wp_region_quiet_below (by kernel_rfl) (by kernel_rfl) ?_
                repeat (quiet_step (first | exact hH _ _ | (go_at_fn 46; exact hH _ _)))
                refine wpQuiet_nil ?_
                intro _ hw'
                obtain ⟨⟨dq, osq⟩, hw''⟩ := hw'
                subst hw''
                have HB2 := Lib.hid (below_regrown wr dq osq)
                clear X0 X1 X2 X3 Y0 Y1 Y2 Y3 hH HC
                generalize grow (redrawn wr dq) osq = wr5 at *
                have HRw2 := Lib.hid (hRow.out.below HB2.out)
                have HFr2 := Lib.hid (hF.out.trans (Fr.of_below HB2.out))
                cases bb with
                | true =>
                  have HQ := Lib.hid (show cmpR x' y' = 0 from by simpa using HE.out)
                  go_wp2
                  go_roundw
                  case rel => exact ⟨k, r + 1 + 1, dk, ⟨by omega, by omega⟩, rfl, by go_num, Lib.hid (HKf.out HQ.out), HRw2, HFr2⟩
                  case measure => simp [intOf]; omega
                | false =>
                  have HQ := Lib.hid (show ¬ cmpR x' y' = 0 from by simpa using HE.out)
                  obtain ⟨x0, x1, x2, x3⟩ := HX.out _ HB2.out
                  obtain ⟨o0, o1, o2, o3⟩ := HRw2.out.cells (i := k) (by simp; omega)
                  have z0 := HRw2.out.free' (k * 4)
                  have z1 := HRw2.out.free' (k * 4 + 1)
                  have z2 := HRw2.out.free' (k * 4 + 2)
                  have z3 := HRw2.out.free' (k * 4 + 3)
                  clear HB2
                  go_wp2
                  go_roundw
                  case rel => exact ⟨k + 1, r + 1 + 1, dk.setIfInBounds k x', ⟨by omega, by omega⟩, by go_num, by go_num, Lib.hid (HKt.out HQ.out), Lib.hid ((HRw2.out.set k x').of_eq' (by simp)), Lib.hid (HFr2.out.trans (Fr.set4 g k _ x'))⟩
                  case measure => simp [intOf]; omega
              · have hm : q + 1 + k2 = d.length := by omega
                obtain rfl : k2 = m2 := by omega
                have hcl : ∀ ty c, (Builtin.clear_ #[28] ty #[.slice (some ⟨g, k * 4, none⟩) (d.length - k) c]).run Tryz.prog wr = .ok (.tuple #[]) (wr.setCells g (k * 4) (Builtin.zeroCells zeroP (d.length - k)).toList) := fun ty c => by
                  have := run_clearQ wr g k dk.toList hRow.out (by simp; omega) c ty
                  rwa [show dk.toList.length = d.length by simpa using hsz] at this
                have hlow := hI.out.low
                have hlen := hI.out.len
                rw [hm, HR.out] at hlow hlen
                have HT : Hid (dk.toList.take k = res) := Lib.hid (by
                  apply List.ext_getElem?
                  intro j
                  by_cases hj : j < k
                  · rw [hlow j hj, List.getElem?_take_of_lt hj, ← getD_bang dk j (by omega)]
                    simp [List.getD, show j < dk.size by omega]
                  · rw [List.getElem?_eq_none (by simp; omega), List.getElem?_eq_none (by omega)])
                have HL := Lib.hid hlen
                have kz : (k : Int) ≤ (d.length : Int) := by omega
                have kz2 : (k : Int) ≤ (cap : Int) := by omega
                clear hlow hlen HR
                go_wp2
                go_ret
                exact ⟨by rw [HL.out]; rfl, (hRow.out.setCells k (by simp; omega) _).of_eq' HT.out, hF.out.trans (Fr.setCells g _ _ _)⟩
        | false =>
          have HQ := Lib.hid (show ¬ cmpR A[q + 1]! A[q]! = 0 from by have := HK.out; simpa using this.symm)
          go_wp2
          go_roundw
          case rel =>
            refine ⟨q + 1 + 1, ⟨by omega, by omega⟩, by go_num, Lib.hid (hB.out.trans (HB2.out.mono hB.out.size)), Lib.hid fun j hj => ?_⟩
            by_cases e : j = q + 1
            · subst e; exact kpQ_true (.inr (by simpa using HQ.out))
            · exact hall.out j (by omega)
          case measure => simp [intOf]; omega
      · obtain rfl : k = d.length := by omega
        have hres : res = d := by
          rw [← HR.out, keptUpTo_all _ _ _ hall.out, ← hAs, range_map_get, HA.out]
        subst hres
        clear HR
        go_wp2
        go_ret
        exact ⟨rfl, HH.out.below hB.out, Fr.of_below hB.out⟩
end Go.Proofs.YtjnlchhikdfifaaGreatDoor
/- slices.SortFunc of at most twelve predicates. -/
namespace Go.Proofs.YtjnlchhikdfifaaGreatDoor
open Go.RowKit Go.Sort Go.Lib
attribute [local go_sem] Oper.semAt_some

set_option maxHeartbeats 2000000 in
theorem bitsLen64_s (n : Nat) (hn : n ≤ 12) (w : World) : Calls Tryz.prog 89 #[.int .u64 (n : Int)] w fun e w' => (∃ r : Int, e = .returned (.int .i64 r)) ∧ w = w' := by
  have h : n = 0 ∨ n = 1 ∨ n = 2 ∨ n = 3 ∨ n = 4 ∨ n = 5 ∨ n = 6 ∨ n = 7 ∨ n = 8 ∨ n = 9 ∨ n = 10 ∨ n = 11 ∨ n = 12 := by omega
  rcases h with rfl | rfl | rfl | rfl | rfl | rfl | rfl | rfl | rfl | rfl | rfl | rfl | rfl
  all_goals
    go_enter Tryz.func89, Tryz.ntmps89
    go_wp2
    go_ret
    exact ⟨⟨_, rfl⟩, rfl⟩
theorem bitsLen_s (n : Nat) (hn : n ≤ 12) (w : World) : Calls Tryz.prog 68 #[.int .u64 (n : Int)] w fun e w' => (∃ r : Int, e = .returned (.int .i64 r)) ∧ w = w' := by
  have HL := Lib.hid (fun W => bitsLen64_s n hn W)
  go_enter Tryz.func68, Tryz.ntmps68
  go_wp2_with (go_at_call 89; refine (HL.out _).mono ?_; rintro e w' ⟨⟨r, rfl⟩, rfl⟩)
  go_ret
  exact ⟨⟨_, rfl⟩, rfl⟩
set_option maxRecDepth 100000 in
set_option maxHeartbeats 2000000 in
theorem pdqQ_any (g cap : Nat) (l : List PR) (r : Int) (w : World) (h : RowG 55 g l w) (ht : Typ l w) (hf : FitsAll l) (hl : l.length ≤ 12) :
    Calls Tryz.prog 67 #[.slice (some ⟨g, 0, none⟩) l.length cap, .int .i64 0, .int .i64 (l.length : Int), .int .i64 r, .func (.func 44) #[] #[]] w fun e w' =>
      e = .returned (.tuple #[]) ∧ ∃ d, LeTo d.length d ∧ SrtI w g l d w' := by
  have HI := Lib.hid (fun W => fun (e : W = w) => (by subst e; exact insQ_any g cap l W h ht hf (by omega) : Calls Tryz.prog 80 #[.slice (some ⟨g, 0, none⟩) l.length cap, .int .i64 0, .int .i64 (l.length : Int), .func (.func 44) #[] #[]] W fun e w' => e = .returned (.tuple #[]) ∧ ∃ d, LeTo d.length d ∧ SrtI W g l d w'))
  have hz : (l.length : Int) ≤ 12 := by omega
  have hz2 : ¬ (12 : Int) < (l.length : Int) := by omega
  have hw : wrap64 ((l.length : Int) - 0) = (l.length : Int) := by unfold wrap64; omega
  clear h ht hf
  go_enter Tryz.func67, Tryz.ntmps67
  go_wp2
  refine wp_loop_rounds 1 ?_
  rw [rounds_succ]
  go_wp2_with (go_at_call 80; refine (HI.out _ rfl).mono ?_)
  rintro e w' ⟨rfl, d, hd, hs⟩
  have HD := Lib.hid (And.intro hd hs)
  clear hd hs
  go_wp2
  exact bodyPost_ret (v := .tuple #[]) (by simp [results, Tryz.results67, go_sem]) rfl ⟨rfl, d, HD.out⟩
theorem sortQ_any (g cap : Nat) (l : List PR) (w : World) (h : RowG 55 g l w) (ht : Typ l w) (hf : FitsAll l) (hl : l.length ≤ 12) :
    Calls Tryz.prog 43 #[.slice (some ⟨g, 0, none⟩) l.length cap, .func (.func 44) #[] #[]] w fun e w' =>
      e = .returned (.tuple #[]) ∧ ∃ d, LeTo d.length d ∧ SrtI w g l d w' := by
  have HP := Lib.hid (fun r => pdqQ_any g cap l r w h ht hf hl)
  have HB := Lib.hid (fun W => bitsLen_s l.length hl W)
  have hw : IntKind.u64.wrap (l.length : Int) = (l.length : Int) := by rw [IntKind.wrap_u64]; omega
  clear h ht hf
  go_enter Tryz.func43, Tryz.ntmps43
  go_wp2_with (first
    | (go_at_call 68; refine (HB.out _).mono ?_; rintro e w' ⟨⟨r, rfl⟩, rfl⟩)
    | (go_at_call 67; refine (HP.out _).mono ?_; rintro e w' ⟨rfl, d, hd, hs⟩; have HD := Lib.hid (And.intro hd hs); clear hd hs))
  go_end0
  exact ⟨rfl, d, HD.out⟩
end Go.Proofs.YtjnlchhikdfifaaGreatDoor
/- scheme.SortPreds of at most twelve predicates: each once, in order. -/
namespace Go.Proofs.YtjnlchhikdfifaaGreatDoor
open Go.RowKit Go.Sort Go.Lib
attribute [local go_sem] Oper.semAt_some

set_option maxRecDepth 100000 in
set_option maxHeartbeats 4000000 in
theorem predsG_any (s v : Value) (d : List PR) (l : List Pr) (w : World) (hl : d.length < 1000000) (hd : SizedAll d) (hs : SubAt s d w) (h : PrsAt w v l) (hq : ∀ q ∈ l, tsize q.2 ≤ 1000000000) (hn : l.length ≤ 1000000) :
    Calls Tryz.prog 40 #[.agg #[s], v] w fun e w' => (∃ ls, ls.map prOf = appP d l ∧ e = .returned (.slice (some ⟨w.heap.size + 1, 0, none⟩) l.length l.length) ∧ RowG 55 (w.heap.size + 1) ls w' ∧ Typ ls w') ∧ Below w.heap.size w w' := by
  obtain ⟨av, cv, rfl⟩ := h.shape
  have hmk := make_rowP l.length (by omega)
  have HS := Lib.hid hs
  obtain ⟨sa, sc, rfl⟩ := hs.shape
  have HRow := Lib.hid (fun (i : Nat) (hi : i < l.length) => (by obtain ⟨g, cap, e, hg, hc, hr⟩ := h.row (by rintro rfl; cases hi); exact ⟨g, cap, e, hg, hc, hr i hi⟩ : ∃ g cap, Value.slice av l.length cv = .slice (some ⟨g, 0, none⟩) l.length cap ∧ g < w.heap.size ∧ l.length ≤ cap ∧ ∃ a c, w.cell? ⟨g, i * 4, none⟩ = some (.string l[i].1) ∧ w.cell? ⟨g, i * 4 + 1, none⟩ = some (.int .i64 l[i].2.kind) ∧ w.cell? ⟨g, i * 4 + 2, none⟩ = some (.string l[i].2.name) ∧ w.cell? ⟨g, i * 4 + 3, none⟩ = some (.slice a l[i].2.kids.length c) ∧ TysAt w (.slice a l[i].2.kids.length c) l[i].2.kids))
  have HQ := Lib.hid hq
  have HB2 := Lib.hid (fun o1 o2 => below_two w o1 o2)
  clear hs h hq
  go_enter Tryz.func40, Tryz.ntmps40
  go_wp2
  go_loopw [13] (fun vi wr => ∃ (i : Nat) (ls : List PR), i ≤ l.length ∧ vi = .int .i64 i ∧ Hid ((ls.length = i ∧ ls.map prOf = appP d (l.take i)) ∧ RowKP (w.heap.size + 1) l.length ls wr ∧ Typ ls wr ∧ Below w.heap.size w wr) ∧ Hid (wr.heap[w.heap.size]? = some (.cells #[.slice sa d.length sc] 73 (0, 0)))) (fun vi _ => l.length - (intOf vi).toNat)
  case atStart =>
    exact ⟨0, [], Nat.zero_le _, rfl, Lib.hid ⟨⟨rfl, rfl⟩, RowKP.start _ _ _ (new_two w _ _), (fun _ h => nomatch h), HB2.out _ _⟩, Lib.hid ((Below.heap_alloc _ _ _ (by simp)).trans (alloc_new w _))⟩
  case round =>
    obtain ⟨i, ls, hi, rfl, hF, hBx⟩ := hrel
    have y0 : wr.cell? ⟨w.heap.size, 0, none⟩ = some (.slice sa d.length sc) := by rw [Lib.cell_of_heap hBx.out]; rfl
    have ly := (Array.getElem?_eq_some_iff.1 hBx.out).1
    have lG := hF.out.2.1.lt
    by_cases hlt : i < l.length
    · obtain ⟨⟨hll, hmap⟩, hRow, hTy, hB⟩ := hF.out
      obtain ⟨g, cap, e1, hg, hcap, pa, pc, x0, x1, x2, x3, xk⟩ := HRow.out i hlt
      cases e1
      have f1 := fun o => hB.cell (p := ⟨g, o, none⟩) hg
      rw [← f1] at x0 x1 x2 x3
      have hgw : g < wr.heap.size := Nat.lt_of_lt_of_le hg hB.size
      have hqs := HQ.out l[i] (List.getElem_mem hlt)
      have HA := Lib.hid (fun (V : World) (hb : Below w.heap.size w V) => apply_any (d := d) (t := l[i].2) (s := .slice sa d.length sc) (v := .slice pa l[i].2.kids.length pc) (w := V) (by omega) hd hqs (HS.out.below hb) (xk.keep (KeepT.of_below hb)))
      have HM := Lib.hid (show appP d (l.take (i + 1)) = appP d (l.take i) ++ [(l[i].1, app d l[i].2)] by unfold appP; rw [List.take_succ_eq_append_getElem hlt, List.map_append]; rfl)
      have HLen := Lib.hid hll; have HMap := Lib.hid hmap; have HRw := Lib.hid hRow; have HTy := Lib.hid hTy; have HB := Lib.hid hB
      clear f1 xk hqs hF hll hmap hRow hTy hB hmk HRow
      generalize l[i] = q at x0 x1 x2 x3 HA HM
      obtain ⟨cn, t⟩ := q
      simp only at x0 x1 x2 x3 HA HM
      simp only [ResT, tyV] at HA
      have hiz : (i : Int) < (l.length : Int) := by omega
      go_wp2
      have hbx := alloc_new wr (.cells #[.string cn, .int .i64 t.kind, .string t.name, .slice pa t.kids.length pc] 55)
      have hbb := below_a wr (.cells #[.string cn, .int .i64 t.kind, .string t.name, .slice pa t.kids.length pc] 55)
      have y0' : (wr.alloc (.cells #[.string cn, .int .i64 t.kind, .string t.name, .slice pa t.kids.length pc] 55)).cell? ⟨w.heap.size, 0, none⟩ = some (.slice sa d.length sc) := (hbb.cell (p := ⟨w.heap.size, 0, none⟩) ly).trans y0
      obtain ⟨V, hV⟩ : ∃ V, wr.alloc (.cells #[.string cn, .int .i64 t.kind, .string t.name, .slice pa t.kids.length pc] 55) = V := ⟨_, rfl⟩
      rw [hV] at hbx hbb y0' ⊢
      obtain ⟨v0, v1, v2, v3⟩ := four_cells hbx
      have HBX := Lib.hid hbx; have HBB := Lib.hid hbb
      have lV := (Array.getElem?_eq_some_iff.1 hbx).1
      clear hV hbx hbb x0 x1 x2 x3 y0
      go_region_with (first
        | (go_at_call 41; refine (HA.out _ ((HB.out.trans (HBB.out.mono HB.out.size)).drew)).mono ?_; rintro e w4 ⟨⟨a4, c4, rfl, g1⟩, g2⟩; have hB4 : Below wr.heap.size wr w4 := (HBB.out.drew).trans (g2.mono HBB.out.size); have hR4 := HRw.out.below hB4; obtain ⟨o0, o1, o2, o3, k0, k1, k2, k3⟩ := hR4.cells hlt; have f0 := Lib.frozen_of_heap hR4.row.choose_spec.1 (i * 4); have f1 := Lib.frozen_of_heap hR4.row.choose_spec.1 (i * 4 + 1); have f2 := Lib.frozen_of_heap hR4.row.choose_spec.1 (i * 4 + 2); have f3 := Lib.frozen_of_heap hR4.row.choose_spec.1 (i * 4 + 3); obtain ⟨n0, n1, n2, n3⟩ := four_cells ((g2.block _ lV).trans HBX.out); have HB4 := Lib.hid hB4; have HR4 := Lib.hid hR4; have HG1 := Lib.hid g1.tys; clear g1 g2 hB4 hR4))
      all_goals
        go_wp2
        have HP := HR4.out.push (by rw [HLen.out]; exact hlt) (⟨cn, app d t, a4, c4⟩ : PR)
        rw [HLen.out] at HP
        have HF4 := Lib.hid ((Fr.of_below (g := w.heap.size + 1) HB4.out).trans (Fr.set4 (w.heap.size + 1) i w4 (⟨cn, app d t, a4, c4⟩ : PR)))
        have hk1 := HR4.out.keepT (Fr.set4 (w.heap.size + 1) i w4 (⟨cn, app d t, a4, c4⟩ : PR))
        have hk2 : KeepT wr w4 := KeepT.of_below HB4.out
        go_roundw
        case rel =>
          refine ⟨i + 1, ls ++ [⟨cn, app d t, a4, c4⟩], by omega, by go_num, Lib.hid ⟨⟨by simp [HLen.out], ?_⟩, HP, ?_, HB.out.trans (HF4.out.below (by omega) HB.out.size)⟩, Lib.hid ((HF4.out.2 _ ly (by omega)).trans hBx.out)⟩
          · rw [List.map_append, HMap.out, HM.out]; rfl
          · intro y hy
            rcases List.mem_append.1 hy with hy | hy
            · exact ((HTy.out y hy).keep hk2).keep hk1
            · obtain rfl := List.mem_singleton.1 hy
              exact HG1.out.keep hk1
        case measure => simp [intOf]; omega
    · obtain rfl : i = l.length := by omega
      have hm := hF.out.1.2
      rw [List.take_length] at hm
      have HE := Lib.hid (And.intro hm (And.intro hF.out.2.1.row hF.out.2.2.1)); have HBz := Lib.hid hF.out.2.2.2
      clear hm hmk HRow hF
      go_wp2
      go_ret
      exact ⟨⟨ls, HE.out.1, rfl, HE.out.2⟩, HBz.out⟩
theorem appP_nil (l : List Pr) : appP [] l = l := by
  unfold appP
  rw [List.map_congr_left (g := id) fun q _ => by rw [app_nil]; rfl, List.map_id]
theorem kept_strict {A : Array PR} (h : LeTo A.size A.toList) : (keptUpTo (kpQ A) A A.size).Pairwise (fun x y => cmpR x y < 0) := by
  unfold keptUpTo
  rw [List.pairwise_map]
  refine List.Pairwise.imp_of_mem ?_ ((List.pairwise_lt_range (n := A.size)).filter (kpQ A))
  intro p q hp hq hlt
  obtain ⟨hq1, hq2⟩ := List.mem_filter.1 hq
  have hqs : q < A.size := List.mem_range.1 hq1
  have hk : q = 0 ∨ cmpR A[q]! A[q - 1]! ≠ 0 := of_decide_eq_true hq2
  have hk := hk.resolve_left (by omega)
  have e : ∀ i, i < A.size → A.toList.getD i noP = A[i]! := fun i hi => getD_bang A i hi
  have h1 := h (q - 1) q (by omega) hqs
  rw [e _ (by omega), e _ hqs] at h1
  have hn := cmpR_neg A[q]! A[q - 1]!
  by_cases hpq : p = q - 1
  · rw [hpq]; omega
  · have h2 := h p (q - 1) (by omega) (by omega)
    have h3 := h p q hlt hqs
    rw [e _ (by omega), e _ (by omega)] at h2
    rw [e _ (by omega), e _ hqs] at h3
    have ht := cmpR_tri A[p]! A[q - 1]! A[q]!
    unfold Tri at ht
    have ht3 := ht.2.2.1 h2 h1
    by_cases h0 : cmpR A[p]! A[q]! = 0
    · have := (ht3 h0).2; omega
    · omega
theorem kept_mem {A : Array PR} (q : Pr) : q ∈ (keptUpTo (kpQ A) A A.size).map prOf ↔ q ∈ A.toList.map prOf := by
  constructor
  · intro h
    obtain ⟨x, hx, rfl⟩ := List.mem_map.1 h
    unfold keptUpTo at hx
    obtain ⟨j, hj, rfl⟩ := List.mem_map.1 hx
    exact List.mem_map.2 ⟨_, bang_memR (List.mem_range.1 (List.mem_filter.1 hj).1), rfl⟩
  · intro h
    obtain ⟨x, hx, rfl⟩ := List.mem_map.1 h
    obtain ⟨j, hj, rfl⟩ := mem_getD hx
    have hj' : j < A.size := by simpa using hj
    rw [getD_bang A j hj']
    have key : ∀ j, j < A.size → prOf A[j]! ∈ (keptUpTo (kpQ A) A A.size).map prOf := by
      intro j
      induction j with
      | zero => intro hj; exact List.mem_map.2 ⟨_, List.mem_map.2 ⟨0, List.mem_filter.2 ⟨List.mem_range.2 hj, kpQ_true (.inl rfl)⟩, rfl⟩, rfl⟩
      | succ j ih =>
        intro hj
        by_cases hk : cmpR A[j + 1]! A[j]! = 0
        · have e := (cmpR_zero _ _).1 hk
          have : prOf A[j + 1]! = prOf A[j]! := by unfold prOf; rw [e.1, e.2]
          rw [this]; exact ih (by omega)
        · exact List.mem_map.2 ⟨_, List.mem_map.2 ⟨j + 1, List.mem_filter.2 ⟨List.mem_range.2 hj, kpQ_true (.inr (by simpa using hk))⟩, rfl⟩, rfl⟩
    exact key j hj'
end Go.Proofs.YtjnlchhikdfifaaGreatDoor
/- Schemes with a context. -/
namespace Go.Proofs.YtjnlchhikdfifaaGreatDoor
open Go.RowKit Go.Sort Go.Lib
attribute [local go_sem] Oper.semAt_some

/-- What rename's last statement keeps, with a context. -/
def SRc (w : World) (b3 b6 b10 : Nat) (xv : Value) (xa : Option Addr) (xc : Nat) (lc : List Pr) (t : T) (ta : Option Addr) (tc : Nat) (sa : Option Addr) (sc : Nat) (l : List PR) (V : World) : Prop :=
  SR w b3 b6 b10 xv (.slice xa lc.length xc) t ta tc sa sc l V ∧ PrsAt V (.slice xa lc.length xc) lc
theorem SRc.below {w : World} {b3 b6 b10 : Nat} {xv : Value} {xa : Option Addr} {xc : Nat} {lc : List Pr} {t : T} {ta : Option Addr} {tc : Nat} {sa : Option Addr} {sc : Nat} {l : List PR} {V Y : World} (h : SRc w b3 b6 b10 xv xa xc lc t ta tc sa sc l V) (hb : Below V.heap.size V Y) : SRc w b3 b6 b10 xv xa xc lc t ta tc sa sc l Y :=
  ⟨h.1.below hb, h.2.keep (KeepT.of_below hb) (KeepP.of_below hb)⟩
end Go.Proofs.YtjnlchhikdfifaaGreatDoor
/- A loop over an iterator whose rounds are told something of the memory beside what they are handed (an error that the iterator has just made), and that goes on reading blocks of its own behind a round: our own contract and our own law for the caller, over the library's steps of the loop's record. -/
namespace Go.Proofs.YtjnlchhikdfifaaGreatDoor
open Go.RowKit

theorem grown_of_below {X Y : World} (h : Below X.heap.size X Y) : X.grownBy Y none := ⟨h.os, h.tape, h.output, h.size, fun k hk _ => h.block k hk⟩

/-- What a round keeps: the blocks from N on that were there, and those that K names. -/
structure Kept (K : Nat → Prop) (N : Nat) (X Y : World) : Prop where
  size : X.heap.size ≤ Y.heap.size
  block : ∀ k, N ≤ k ∨ K k → k < X.heap.size → Y.heap[k]? = X.heap[k]?

/-- The contract. Between two rounds the iterator may have laid blocks ('Below', from X0, where the last round ended, to X, where the next begins); the rounds may be told 'Ex x' of the world in which they are handed x; a round that goes on keeps what the iterator has laid since X0, and the blocks of K. -/
def SeqTold {α : Type} (n : Nat) (P : Program) (g : Nat) (lb : Array Value) (encs : α → Array Value) (Ex : α → World → Prop) (K : Nat → Prop) (S Sp : List α → Prop) (N : Nat) (w : World) : Prop :=
  ∀ (l : Nat) (J Jx : List α → World → Prop) (W : World), Below w.heap.size w W →
    (∀ pre x X0 X, J pre X0 → pre.length < N → Below X0.heap.size X0 X → Ex x X → YieldAt Fence.wide (n - 1) P l (encs x) X fun e Y =>
      (e = .returned (.bool true) ∧ J (pre ++ [x]) Y ∧ Kept K X0.heap.size X Y) ∨ (e = .returned (.bool false) ∧ Jx (pre ++ [x]) Y)) →
    J [] W →
    CallsIn Fence.wide n P g (#[.func (.yield l) #[] #[]] ++ lb) W fun e Y => (∃ v, e = .returned v) ∧ ((∃ xs, S xs ∧ J xs Y) ∨ (∃ pre, Sp pre ∧ Jx pre Y))

/-- How a round's body may be left: by its end, or by a return. The body may write the blocks of T alone, and what it has made itself. -/
def RoundPost {σ α : Type} (B : Nat) (T : Nat → Prop) (I : σ → List α → World → Prop) (Ix : List α → World → Prop) (xs : List α) (X : World) : Exit → Act → World → Prop
  | .normal, _, Y => KeepsFrom B X Y ∧ (∀ k, ¬ T k → k < X.heap.size → Y.heap[k]? = X.heap[k]?) ∧ ∃ s, I s xs Y
  | .ret, _, Y => KeepsFrom B X Y ∧ Ix xs Y
  | _, _, _ => False

/-- **The statement 'for .. := range f', its body left by its end or by a return.** 's': what the body keeps of its own; 'T s': the blocks that it may write there. -/
theorem range_told {n : Nat} {P : Program} {σ α : Type} {g : Operand} {ps : Array Tmp} {assign body : Code} {Q : Exit → Act → World → Prop} {a : Act} {w : World} (h1 : 1 ≤ n)
    {gf : Nat} {lb : Array Value} (hg : a.eval g = .func (.func gf) #[] lb) (eg : ∀ args w, (callFunc gf args).run P w = .ok (.enter gf args) w)
    {encs : α → Array Value} {Ex : α → World → Prop} {K : Nat → Prop} {S Sp : List α → Prop} {N : Nat} {w0 : World} (hseq : SeqTold (n - 1) P gf lb encs Ex K S Sp N w0)
    (hK : ∀ k, K k → k < w.heap.size) (hb0 : Below w0.heap.size w0 w) (hps : ∀ x, (encs x).size = ps.size)
    (I : σ → List α → World → Prop) (Ix : List α → World → Prop) (T : σ → Nat → Prop) (hI : ∀ s, OwnFrom w.heap.size (I s)) (hIx : OwnFrom w.heap.size Ix)
    (hT : ∀ s pre X k, I s pre X → T s k → k < X.heap.size ∧ ¬ K k) (h0 : ∃ s, I s [] w)
    (Ax : α → Act → World → Prop) (hAx : ∀ x a', OwnFrom w.heap.size (fun (_ : Unit) W => Ax x a' W))
    (hassign : ∀ (l : Nat) (s : σ) (pre : List α) (x : α) (X : World) (C : Act → World → Prop), I s pre X → Ex x X →
      (∀ a' Y, KeepsFrom w.heap.size X Y → Below X.heap.size X Y → Ax x a' Y → C a' Y) →
      assign.wpIn (Fence.wide.inRound l) (n - 1 - 1) P (Exit.then C (fun _ _ _ => False)) { tmps := (ps.zip (encs x)).foldl (fun t (p, v) => t.setIfInBounds p v) a.tmps, defers := [] } X)
    (hbody : ∀ (l : Nat) (s : σ) (pre : List α) (x : α) (a' : Act) (X : World), I s pre X → pre.length < N → Ax x a' X → body.wpIn (Fence.wide.inRound l) (n - 1 - 1) P (RoundPost w.heap.size (T s) I Ix (pre ++ [x]) X) a' X)
    (hdone : ∀ (D : Nat) (s : σ) (xs : List α) (W : World), w.heap.size ≤ D → S xs → I s xs W → W.heap[D]? = some (.deferred (some [])) → Q .normal { a with defers := { target := .collected D, args := #[] } :: a.defers } W)
    (hstop : ∀ (D : Nat) (pre : List α) (W : World), w.heap.size ≤ D → Sp pre → Ix pre W → W.heap[D]? = some (.deferred (some [])) → Code.ret.wpIn Fence.wide n P Q { a with defers := { target := .collected D, args := #[] } :: a.defers } W) :
    (Code.rangeFunc g ps assign body).wpIn Fence.wide n P Q a w := by
  refine wpIn_rangeFunc fun fn _ => ?_
  -- the two blocks that the loop lays: the rounds' deferred calls at B, the record behind it
  generalize hB : w.heap.size = B at *
  obtain ⟨R, hR⟩ : ∃ R : LoopState → Option Code → Obj, R = fun st pe => .loop { state := st, pending := pe, fn, tmps := a.tmps, params := ps, assign, body, defers := B } := ⟨_, rfl⟩
  have hcells : ∀ st pe, (R st pe).isCells = false := fun st pe => by rw [hR]; rfl
  obtain ⟨V, hV⟩ : ∃ V, (w.alloc (.deferred (some []))).alloc (R .ready none) = V := ⟨_, rfl⟩
  have below : Below w.heap.size w V := by rw [← hV]; exact ((Below.refl _ w).alloc (Nat.le_refl _) _).alloc (by simp) _
  have hVL : V.heap[B + 1]? = some (R .ready none) := by
    rw [← hV]
    have := World.alloc_heap_new (w.alloc (.deferred (some []))) (R .ready none)
    rwa [World.size_alloc, hB] at this
  have hVB : V.heap[B]? = some (.deferred (some [])) := by
    rw [← hV, Below.heap_alloc _ _ _ (by simp; omega), ← hB]
    exact World.alloc_heap_new w _
  obtain ⟨s0, h0⟩ := h0
  have hVI : I s0 [] V := hI _ _ _ _ none h0 (grown_of_below below) (fun r e => by cases e)
  -- turning the record keeps what is asked
  have turn : ∀ {X : World} {o : Obj} (o' : Obj), X.heap[B + 1]? = some o → o.isCells = false → (∀ s xs, I s xs X → I s xs (X.putObj (B + 1) o')) ∧ (∀ xs, Ix xs X → Ix xs (X.putObj (B + 1) o')) ∧
      (∀ x a', Ax x a' X → Ax x a' (X.putObj (B + 1) o')) ∧ (∀ k, k ≠ B + 1 → (X.putObj (B + 1) o').heap[k]? = X.heap[k]?) ∧ (X.putObj (B + 1) o').heap[B + 1]? = some o' ∧ (X.putObj (B + 1) o').heap[B]? = X.heap[B]? :=
    fun {X o} o' hl ho => by
      have hlt := (Array.getElem?_eq_some_iff.1 hl).1
      exact ⟨fun s xs h => (hI s).putObj _ h (by omega) hl ho, fun xs h => hIx.putObj _ h (by omega) hl ho, fun x a' h => (hAx x a').putObj (s := ()) _ h (by omega) hl ho,
        fun k hk => World.putObj_heap_other hk, World.putObj_heap_same hlt, World.putObj_heap_other (by omega)⟩
  refine ⟨B + 1, [{ target := .collected B, args := #[] }], V, { target := .fn (.func gf) lb, args := #[.func (.yield (B + 1)) #[] #[]] }, V, gf, #[.func (.yield (B + 1)) #[] #[]] ++ lb, V, ?_, ?_, fun _ _ => trivial, ?_, fun _ => h1, ?_⟩
  · have e := run_enterLoop_outer (P := P) (w := w) fn a.tmps ps assign body
    rw [hB] at e
    rw [← hV, hR]
    exact e
  · simp only [resolve, hg]
    simp [go_sem]
  · simp [invoke, go_sem, eg]
  · refine (hseq (B + 1)
      (fun pre X => (∃ s, I s pre X) ∧ X.heap[B + 1]? = some (R .ready none) ∧ X.heap[B]? = some (.deferred (some [])))
      (fun pre X => Ix pre X ∧ X.heap[B + 1]? = some (R .done (some .ret)) ∧ X.heap[B]? = some (.deferred (some [])))
      V (hb0.trans (below.mono (by rw [hB]; have := hb0.size; omega)))
      ?_ ⟨⟨s0, hVI⟩, hVL, hVB⟩).mono ?_
    · -- a round
      rintro pre x X0 X ⟨⟨s, hi0⟩, hl0, hd0⟩ hlen hX hex
      have hlt0 := (Array.getElem?_eq_some_iff.1 hl0).1
      have hi : I s pre X := hI _ _ _ _ none hi0 (grown_of_below hX) (fun r e => by cases e)
      have hl := (hX.block _ hlt0).trans hl0
      have hd := (hX.block _ (Array.getElem?_eq_some_iff.1 hd0).1).trans hd0
      have hl' := hl
      rw [hR] at hl'
      refine ⟨fn, _, assign, body, run_yield (P := P) (args := encs x) hl' (hps x), roundIn_of_wpIn trivial (hassign _ s pre x X _ hi hex ?_)⟩
      intro a' Y hk hb hax
      have hiY : I s pre Y := hI _ _ _ _ none hi (grown_of_below hb) (fun r e => by cases e)
      have hlY := hk.same _ _ (by omega) hl (hcells _ _)
      have hdY := hk.same _ _ (Nat.le_refl _) hd rfl
      have hlY' := hlY
      rw [hR] at hlY'
      have begins := run_beginRound (P := P) hlY' rfl
      obtain ⟨t1, _, t3, t4, t5, t6⟩ := turn (R .busy none) hlY (hcells _ _)
      refine ⟨Y.putObj (B + 1) (R .busy none), by rw [begins, hR], ?_⟩
      have ends : ∀ (jump : Option Code) (Z : World), KeepsFrom B (Y.putObj (B + 1) (R .busy none)) Z → Z.heap[B + 1]? = some (R .busy none) ∧ Z.heap[B]? = some (.deferred (some [])) ∧
          (Instr.endRound (B + 1) jump).run P Z = .ok (.bool jump.isNone) (Z.putObj (B + 1) (R (if jump.isNone then .ready else .done) jump)) := fun jump Z hz => by
        have z1 := hz.same _ _ (by omega) t5 (hcells _ _)
        refine ⟨z1, hz.same _ _ (Nat.le_refl _) (t6.trans hdY) rfl, ?_⟩
        rw [hR] at z1 ⊢
        exact run_endRound (P := P) jump z1
      refine wpIn_mono (hbody _ s pre x a' _ (t1 _ _ hiY) hlen (t3 _ _ hax)) ?_
      rintro e a3 Z hp
      cases e with
      | normal =>
        obtain ⟨hz, hzb, s', hzi⟩ := hp
        obtain ⟨z1, z2, z3⟩ := ends none Z hz
        obtain ⟨u1, _, _, u4, u5, u6⟩ := turn (R .ready none) z1 (hcells _ _)
        refine ⟨_, _, z3, .inl ⟨rfl, ⟨⟨s', u1 _ _ hzi⟩, u5, u6.trans z2⟩, ?_, ?_⟩⟩
        · have := hb.size; have := hz.size; simp at this ⊢; omega
        · intro k hk hkX
          have hne : k ≠ B + 1 := by
            rcases hk with hk | hk
            · omega
            · have := hK k hk; omega
          have hnT : ¬ T s k := by
            intro ht
            rcases hk with hk | hk
            · have := (hT s pre X0 k hi0 ht).1; omega
            · exact (hT s pre X0 k hi0 ht).2 hk
          have hkY : k < Y.heap.size := by have := hb.size; omega
          exact (u4 k hne).trans ((hzb k hnT (by simpa using hkY)).trans ((t4 k hne).trans (hb.block k hkX)))
      | ret =>
        obtain ⟨hz, hzi⟩ := hp
        obtain ⟨z1, z2, z3⟩ := ends (some .ret) Z hz
        obtain ⟨_, u2, _, _, u5, u6⟩ := turn (R .done (some .ret)) z1 (hcells _ _)
        exact ⟨_, _, z3, .inr ⟨rfl, u2 _ hzi, u5, u6.trans z2⟩⟩
      | exit id => exact hp.elim
      | goto t => exact hp.elim
      | panic ch => exact hp.elim
      | outgrown => exact hp.elim
    · -- behind the iterator
      rintro e Z ⟨⟨v, rfl⟩, (⟨xs, hS, ⟨s, hi⟩, hl, hd⟩ | ⟨pre, hSp, hi, hl, hd⟩)⟩
      · obtain ⟨u1, _, _, _, _, u6⟩ := turn (R .exhausted none) hl (hcells _ _)
        have hl' := hl
        rw [hR] at hl'
        refine ⟨none, _, by have e := run_endLoop (P := P) hl' (by simp); exact e, ?_⟩
        have := hdone B s xs _ (Nat.le_refl _) hS (u1 _ _ hi) (u6.trans hd)
        rw [hR] at this
        exact this
      · obtain ⟨_, u2, _, _, _, u6⟩ := turn (R .exhausted (some .ret)) hl (hcells _ _)
        have hl' := hl
        rw [hR] at hl'
        refine ⟨some .ret, _, by have e := run_endLoop (P := P) hl' (by simp); exact e, ?_⟩
        have := hstop B pre _ (Nat.le_refl _) hSp (u2 _ hi) (u6.trans hd)
        rw [hR] at this
        exact this
end Go.Proofs.YtjnlchhikdfifaaGreatDoor
/- A loop over an iterator, once more: the rounds are told of the memory since the last round's end; the loop may be left by one jump (a return, or a break); what a round's frame holds may hang on what the body keeps. -/
namespace Go.Proofs.YtjnlchhikdfifaaGreatDoor
open Go.RowKit

/-- The contract. Between two rounds the iterator may have laid blocks ('Below', from X0, where the last round ended, to X, where the next begins); the rounds may be told 'Ex x' of the world in which they are handed x; a round that goes on keeps what the iterator has laid since X0, and the blocks of K. -/
def SeqGen {α : Type} (n : Nat) (P : Program) (g : Nat) (lb : Array Value) (encs : α → Array Value) (Ex : List α → α → World → World → Prop) (K : Nat → Prop) (S Sp : List α → Prop) (N : Nat) (w : World) : Prop :=
  ∀ (l : Nat) (J Jx : List α → World → Prop) (W : World), Below w.heap.size w W →
    (∀ pre x X0 X, J pre X0 → pre.length < N → Below X0.heap.size X0 X → Ex pre x X0 X → YieldAt Fence.wide (n - 1) P l (encs x) X fun e Y =>
      (e = .returned (.bool true) ∧ J (pre ++ [x]) Y ∧ Kept K X0.heap.size X Y) ∨ (e = .returned (.bool false) ∧ Jx (pre ++ [x]) Y)) →
    J [] W →
    CallsIn Fence.wide n P g (#[.func (.yield l) #[] #[]] ++ lb) W fun e Y => (∃ v, e = .returned v) ∧ ((∃ xs, S xs ∧ J xs Y) ∨ (∃ pre, Sp pre ∧ Jx pre Y))

/-- How a round's body may be left: by its end, or by a return. The body may write the blocks of T alone, and what it has made itself. -/
def RoundGen {σ α : Type} (jump : Code) (B : Nat) (T : Nat → Prop) (I : σ → List α → World → Prop) (Ix : List α → World → Prop) (xs : List α) (X : World) : Exit → Act → World → Prop
  | .normal, _, Y => KeepsFrom B X Y ∧ (∀ k, ¬ T k → k < X.heap.size → Y.heap[k]? = X.heap[k]?) ∧ ∃ s, I s xs Y
  | .ret, _, Y => jump = .ret ∧ KeepsFrom B X Y ∧ Ix xs Y
  | .exit id, _, Y => jump = .exit id ∧ KeepsFrom B X Y ∧ Ix xs Y
  | _, _, _ => False

/-- **The statement 'for .. := range f', its body left by its end or by a return.** 's': what the body keeps of its own; 'T s': the blocks that it may write there. -/
theorem range_gen {n : Nat} {P : Program} {σ α : Type} {g : Operand} {ps : Array Tmp} {assign body : Code} {Q : Exit → Act → World → Prop} {a : Act} {w : World} (h1 : 1 ≤ n)
    {gf : Nat} {lb : Array Value} (hg : a.eval g = .func (.func gf) #[] lb) (eg : ∀ args w, (callFunc gf args).run P w = .ok (.enter gf args) w)
    {encs : α → Array Value} {Ex : List α → α → World → World → Prop} {K : Nat → Prop} {S Sp : List α → Prop} {N : Nat} {w0 : World} (hseq : SeqGen (n - 1) P gf lb encs Ex K S Sp N w0)
    (hK : ∀ k, K k → k < w.heap.size) (hb0 : Below w0.heap.size w0 w) (hps : ∀ x, (encs x).size = ps.size)
    (I : σ → List α → World → Prop) (Ix : List α → World → Prop) (T : σ → Nat → Prop) (hI : ∀ s, OwnFrom w.heap.size (I s)) (hIx : OwnFrom w.heap.size Ix)
    (hT : ∀ s pre X k, I s pre X → T s k → k < X.heap.size ∧ ¬ K k) (h0 : ∃ s, I s [] w)
    (Ax : σ → List α → α → Act → World → Prop) (hAx : ∀ s pre x a', OwnFrom w.heap.size (fun (_ : Unit) W => Ax s pre x a' W)) (jump : Code)
    (hassign : ∀ (l : Nat) (s : σ) (pre : List α) (x : α) (X0 X : World) (C : Act → World → Prop), I s pre X0 → Below X0.heap.size X0 X → I s pre X → Ex pre x X0 X →
      (∀ a' Y, KeepsFrom w.heap.size X Y → Below X.heap.size X Y → Ax s pre x a' Y → C a' Y) →
      assign.wpIn (Fence.wide.inRound l) (n - 1 - 1) P (Exit.then C (fun _ _ _ => False)) { tmps := (ps.zip (encs x)).foldl (fun t (p, v) => t.setIfInBounds p v) a.tmps, defers := [] } X)
    (hbody : ∀ (l : Nat) (s : σ) (pre : List α) (x : α) (a' : Act) (X : World), I s pre X → pre.length < N → Ax s pre x a' X → body.wpIn (Fence.wide.inRound l) (n - 1 - 1) P (RoundGen jump w.heap.size (T s) I Ix (pre ++ [x]) X) a' X)
    (hdone : ∀ (D : Nat) (s : σ) (xs : List α) (W : World), w.heap.size ≤ D → S xs → I s xs W → W.heap[D]? = some (.deferred (some [])) → Q .normal { a with defers := { target := .collected D, args := #[] } :: a.defers } W)
    (hstop : ∀ (D : Nat) (pre : List α) (W : World), w.heap.size ≤ D → Sp pre → Ix pre W → W.heap[D]? = some (.deferred (some [])) → jump.wpIn Fence.wide n P Q { a with defers := { target := .collected D, args := #[] } :: a.defers } W) :
    (Code.rangeFunc g ps assign body).wpIn Fence.wide n P Q a w := by
  refine wpIn_rangeFunc fun fn _ => ?_
  -- the two blocks that the loop lays: the rounds' deferred calls at B, the record behind it
  generalize hB : w.heap.size = B at *
  obtain ⟨R, hR⟩ : ∃ R : LoopState → Option Code → Obj, R = fun st pe => .loop { state := st, pending := pe, fn, tmps := a.tmps, params := ps, assign, body, defers := B } := ⟨_, rfl⟩
  have hcells : ∀ st pe, (R st pe).isCells = false := fun st pe => by rw [hR]; rfl
  obtain ⟨V, hV⟩ : ∃ V, (w.alloc (.deferred (some []))).alloc (R .ready none) = V := ⟨_, rfl⟩
  have below : Below w.heap.size w V := by rw [← hV]; exact ((Below.refl _ w).alloc (Nat.le_refl _) _).alloc (by simp) _
  have hVL : V.heap[B + 1]? = some (R .ready none) := by
    rw [← hV]
    have := World.alloc_heap_new (w.alloc (.deferred (some []))) (R .ready none)
    rwa [World.size_alloc, hB] at this
  have hVB : V.heap[B]? = some (.deferred (some [])) := by
    rw [← hV, Below.heap_alloc _ _ _ (by simp; omega), ← hB]
    exact World.alloc_heap_new w _
  obtain ⟨s0, h0⟩ := h0
  have hVI : I s0 [] V := hI _ _ _ _ none h0 (grown_of_below below) (fun r e => by cases e)
  -- turning the record keeps what is asked
  have turn : ∀ {X : World} {o : Obj} (o' : Obj), X.heap[B + 1]? = some o → o.isCells = false → (∀ s xs, I s xs X → I s xs (X.putObj (B + 1) o')) ∧ (∀ xs, Ix xs X → Ix xs (X.putObj (B + 1) o')) ∧
      (∀ s pre x a', Ax s pre x a' X → Ax s pre x a' (X.putObj (B + 1) o')) ∧ (∀ k, k ≠ B + 1 → (X.putObj (B + 1) o').heap[k]? = X.heap[k]?) ∧ (X.putObj (B + 1) o').heap[B + 1]? = some o' ∧ (X.putObj (B + 1) o').heap[B]? = X.heap[B]? :=
    fun {X o} o' hl ho => by
      have hlt := (Array.getElem?_eq_some_iff.1 hl).1
      exact ⟨fun s xs h => (hI s).putObj _ h (by omega) hl ho, fun xs h => hIx.putObj _ h (by omega) hl ho, fun s pre x a' h => (hAx s pre x a').putObj (s := ()) _ h (by omega) hl ho,
        fun k hk => World.putObj_heap_other hk, World.putObj_heap_same hlt, World.putObj_heap_other (by omega)⟩
  refine ⟨B + 1, [{ target := .collected B, args := #[] }], V, { target := .fn (.func gf) lb, args := #[.func (.yield (B + 1)) #[] #[]] }, V, gf, #[.func (.yield (B + 1)) #[] #[]] ++ lb, V, ?_, ?_, fun _ _ => trivial, ?_, fun _ => h1, ?_⟩
  · have e := run_enterLoop_outer (P := P) (w := w) fn a.tmps ps assign body
    rw [hB] at e
    rw [← hV, hR]
    exact e
  · simp only [resolve, hg]
    simp [go_sem]
  · simp [invoke, go_sem, eg]
  · refine (hseq (B + 1)
      (fun pre X => (∃ s, I s pre X) ∧ X.heap[B + 1]? = some (R .ready none) ∧ X.heap[B]? = some (.deferred (some [])))
      (fun pre X => Ix pre X ∧ X.heap[B + 1]? = some (R .done (some jump)) ∧ X.heap[B]? = some (.deferred (some [])))
      V (hb0.trans (below.mono (by rw [hB]; have := hb0.size; omega)))
      ?_ ⟨⟨s0, hVI⟩, hVL, hVB⟩).mono ?_
    · -- a round
      rintro pre x X0 X ⟨⟨s, hi0⟩, hl0, hd0⟩ hlen hX hex
      have hlt0 := (Array.getElem?_eq_some_iff.1 hl0).1
      have hi : I s pre X := hI _ _ _ _ none hi0 (grown_of_below hX) (fun r e => by cases e)
      have hl := (hX.block _ hlt0).trans hl0
      have hd := (hX.block _ (Array.getElem?_eq_some_iff.1 hd0).1).trans hd0
      have hl' := hl
      rw [hR] at hl'
      refine ⟨fn, _, assign, body, run_yield (P := P) (args := encs x) hl' (hps x), roundIn_of_wpIn trivial (hassign _ s pre x X0 X _ hi0 hX hi hex ?_)⟩
      intro a' Y hk hb hax
      have hiY : I s pre Y := hI _ _ _ _ none hi (grown_of_below hb) (fun r e => by cases e)
      have hlY := hk.same _ _ (by omega) hl (hcells _ _)
      have hdY := hk.same _ _ (Nat.le_refl _) hd rfl
      have hlY' := hlY
      rw [hR] at hlY'
      have begins := run_beginRound (P := P) hlY' rfl
      obtain ⟨t1, _, t3, t4, t5, t6⟩ := turn (R .busy none) hlY (hcells _ _)
      refine ⟨Y.putObj (B + 1) (R .busy none), by rw [begins, hR], ?_⟩
      have ends : ∀ (jump : Option Code) (Z : World), KeepsFrom B (Y.putObj (B + 1) (R .busy none)) Z → Z.heap[B + 1]? = some (R .busy none) ∧ Z.heap[B]? = some (.deferred (some [])) ∧
          (Instr.endRound (B + 1) jump).run P Z = .ok (.bool jump.isNone) (Z.putObj (B + 1) (R (if jump.isNone then .ready else .done) jump)) := fun jump Z hz => by
        have z1 := hz.same _ _ (by omega) t5 (hcells _ _)
        refine ⟨z1, hz.same _ _ (Nat.le_refl _) (t6.trans hdY) rfl, ?_⟩
        rw [hR] at z1 ⊢
        exact run_endRound (P := P) jump z1
      refine wpIn_mono (hbody _ s pre x a' _ (t1 _ _ hiY) hlen (t3 _ _ _ _ hax)) ?_
      rintro e a3 Z hp
      cases e with
      | normal =>
        obtain ⟨hz, hzb, s', hzi⟩ := hp
        obtain ⟨z1, z2, z3⟩ := ends none Z hz
        obtain ⟨u1, _, _, u4, u5, u6⟩ := turn (R .ready none) z1 (hcells _ _)
        refine ⟨_, _, z3, .inl ⟨rfl, ⟨⟨s', u1 _ _ hzi⟩, u5, u6.trans z2⟩, ?_, ?_⟩⟩
        · have := hb.size; have := hz.size; simp at this ⊢; omega
        · intro k hk hkX
          have hne : k ≠ B + 1 := by
            rcases hk with hk | hk
            · omega
            · have := hK k hk; omega
          have hnT : ¬ T s k := by
            intro ht
            rcases hk with hk | hk
            · have := (hT s pre X0 k hi0 ht).1; omega
            · exact (hT s pre X0 k hi0 ht).2 hk
          have hkY : k < Y.heap.size := by have := hb.size; omega
          exact (u4 k hne).trans ((hzb k hnT (by simpa using hkY)).trans ((t4 k hne).trans (hb.block k hkX)))
      | ret =>
        obtain ⟨rfl, hz, hzi⟩ := hp
        obtain ⟨z1, z2, z3⟩ := ends (some .ret) Z hz
        obtain ⟨_, u2, _, _, u5, u6⟩ := turn (R .done (some .ret)) z1 (hcells _ _)
        exact ⟨_, _, z3, .inr ⟨rfl, u2 _ hzi, u5, u6.trans z2⟩⟩
      | exit id =>
        obtain ⟨rfl, hz, hzi⟩ := hp
        obtain ⟨z1, z2, z3⟩ := ends (some (.exit id)) Z hz
        obtain ⟨_, u2, _, _, u5, u6⟩ := turn (R .done (some (.exit id))) z1 (hcells _ _)
        exact ⟨_, _, z3, .inr ⟨rfl, u2 _ hzi, u5, u6.trans z2⟩⟩
      | goto t => exact hp.elim
      | panic ch => exact hp.elim
      | outgrown => exact hp.elim
    · -- behind the iterator
      rintro e Z ⟨⟨v, rfl⟩, (⟨xs, hS, ⟨s, hi⟩, hl, hd⟩ | ⟨pre, hSp, hi, hl, hd⟩)⟩
      · obtain ⟨u1, _, _, _, _, u6⟩ := turn (R .exhausted none) hl (hcells _ _)
        have hl' := hl
        rw [hR] at hl'
        refine ⟨none, _, by have e := run_endLoop (P := P) hl' (by simp); exact e, ?_⟩
        have := hdone B s xs _ (Nat.le_refl _) hS (u1 _ _ hi) (u6.trans hd)
        rw [hR] at this
        exact this
      · obtain ⟨_, u2, _, _, _, u6⟩ := turn (R .exhausted (some jump)) hl (hcells _ _)
        have hl' := hl
        rw [hR] at hl'
        refine ⟨some jump, _, by have e := run_endLoop (P := P) hl' (by simp); exact e, ?_⟩
        have := hstop B pre _ (Nat.le_refl _) hSp (u2 _ hi) (u6.trans hd)
        rw [hR] at this
        exact this
end Go.Proofs.YtjnlchhikdfifaaGreatDoor
/- (Subst).Pairs: the pairs, told one by one. -/
namespace Go.Proofs.YtjnlchhikdfifaaGreatDoor
open Go.RowKit Go.Sort Go.Lib
attribute [local go_sem] Oper.semAt_some

def encQ (x : PR) : Array Value := #[.string x.n, .agg #[.int .i64 x.t.kind, .string x.t.name, .slice x.a x.t.kids.length x.c]]
/-- What is told is the next one of the row; its rows are new since the last round. -/
def ExQ (d : List PR) (pre : List PR) (x : PR) (X0 X : World) : Prop := TyIn (fun k => X0.heap.size ≤ k) X x.t (.slice x.a x.t.kids.length x.c) ∧ (pre.length < d.length ∧ x.n = (d.getD pre.length noP).n ∧ x.t = (d.getD pre.length noP).t)
/-- Rows of types, all of them in blocks that are ok. -/
theorem TyAt.inside {ok : Nat → Prop} {w : World} (hk : ∀ (k : Nat) (cs : Array Value) (fz : Nat × Nat), w.heap[k]? = some (.cells cs 31 fz) → ok k) {t : T} {k n v : Value} (h : TyAt w t k n v) : TyIn ok w t v := by
  induction h with
  | leaf t a c h => exact .leaf t a c h
  | row t g cap cs fz x y z h1 h2 h3 h4 ih =>
    refine .row t g cap cs fz z (hk _ _ _ h1) h1 h2 (fun i hi => ?_) ih
    obtain ⟨e1, e2, _⟩ := (h4 i hi).shape
    obtain ⟨c1, c2, c3⟩ := h3 i hi
    exact ⟨by rw [c1, e1], by rw [c2, e2], c3⟩
theorem TysAt.inside {ok : Nat → Prop} {w : World} (hk : ∀ (k : Nat) (cs : Array Value) (fz : Nat × Nat), w.heap[k]? = some (.cells cs 31 fz) → ok k) {t : T} {v : Value} (h : TysAt w v t.kids) : TyIn ok w t v := (TyAt.mk t h).inside hk
def KeepK (K : Nat → Prop) (X W : World) : Prop := ∀ k, K k → k < X.heap.size → W.heap[k]? = X.heap[k]?
theorem KeepK.trans {K : Nat → Prop} {X Y Z : World} (h : KeepK K X Y) (k : KeepK K Y Z) (hs : X.heap.size ≤ Y.heap.size) : KeepK K X Z := fun i hi hx => (k i hi (by omega)).trans (h i hi hx)
theorem KeepK.of_below {K : Nat → Prop} {X Y : World} (h : Below X.heap.size X Y) : KeepK K X Y := fun i _ hx => h.block i hx
theorem TyIn.keepK {K : Nat → Prop} {X W : World} {t : T} {v : Value} (h : TyIn K X t v) (hk : KeepK K X W) : TyIn K W t v := h.keep fun k _ _ h1 h2 => (hk k h1 (Array.getElem?_eq_some_iff.1 h2).1).trans h2
/-- The row of pairs that the iterator goes through: in blocks of K. -/
def Src (K : Nat → Prop) (a : Option Addr) (d : List PR) (w : World) : Prop := (∀ i, i < d.length → ∃ g, a = some ⟨g, 0, none⟩ ∧ K g ∧ RowP g d w) ∧ ∀ x ∈ d, TyIn K w x.t (.slice x.a x.t.kids.length x.c)
theorem Src.keepK {K : Nat → Prop} {a : Option Addr} {d : List PR} {X W : World} (h : Src K a d X) (hk : KeepK K X W) : Src K a d W :=
  ⟨fun i hi => by obtain ⟨g, e, h1, h2⟩ := h.1 i hi; exact ⟨g, e, h1, h2.same (hk g h1 h2.lt)⟩, fun x hx => (h.2 x hx).keepK hk⟩
theorem Src.of {K : Nat → Prop} {a : Option Addr} {n c : Nat} {d : List PR} {w : World} (h : SubAt (.slice a n c) d w) (h1 : ∀ (k : Nat) (cs : Array Value) (fz : Nat × Nat), w.heap[k]? = some (.cells cs 31 fz) → K k)
    (h2 : ∀ (k : Nat) (cs : Array Value) (fz : Nat × Nat), w.heap[k]? = some (.cells cs 90 fz) → K k) : Src K a d w := by
  obtain ⟨⟨hs, _⟩, ht⟩ := h
  refine ⟨fun i hi => ?_, fun x hx => (ht x hx).inside h1⟩
  rcases hs with ⟨rfl, _⟩ | ⟨g, cap, e, _, hr⟩
  · cases hi
  · simp only [Value.slice.injEq] at e
    have hr0 := hr
    obtain ⟨cs, hg, _⟩ := hr
    exact ⟨g, e.1, h2 g _ _ hg, hr0⟩
end Go.Proofs.YtjnlchhikdfifaaGreatDoor
/- (Subst).Pairs as a call; small facts of loops over it. -/
namespace Go.Proofs.YtjnlchhikdfifaaGreatDoor
open Go.RowKit Go.Sort Go.Lib
attribute [local go_sem] Oper.semAt_some

theorem block_kept {W W' : World} {row : Option Nat} {b : Nat} {c : Array Value} {t : TypeId} {m : Nat × Nat} (h : W.heap[b]? = some (.cells c t m)) (hg : W.grownBy W' row)
    (hr : ∀ r, row = some r → ∃ o : Obj, W.heap[r]? = some o ∧ o.isCells = false) : W'.heap[b]? = some (.cells c t m) := by
  refine (hg.block b (Array.getElem?_eq_some_iff.1 h).1 fun e => ?_).trans h
  obtain ⟨o, ho, hc⟩ := hr b e.symm
  rw [h] at ho; cases ho; cases hc
theorem below_others {X Y : World} (h : Below X.heap.size X Y) : KeepsOthers X Y := ⟨h.size, fun k _ hk _ => (h.block k (Array.getElem?_eq_some_iff.1 hk).1).trans hk⟩
theorem own_cells {W : World} {base : Nat} {e : TypeId} {size : Nat} {v : Value} {n : Nat} {xs : List Value} (h : W.ownsRow base e size v n xs) (j : Nat) (o : Obj) (hj : v.ownBlock = some j) (ho : W.heap[j]? = some o) : o.isCells = true := by
  rcases h.2 with ⟨rfl, _⟩ | ⟨g, cap, cur, rfl, _, hg, _⟩
  · cases hj
  · obtain rfl : g = j := by simpa [Value.ownBlock] using hj
    rw [hg] at ho; cases ho; rfl
theorem others_grown {X w1 : World} {o : Obj} {base : Nat} {e : TypeId} {size : Nat} {v : Value} {n : Nat} {xs : List Value} (h : X.ownsRow base e size v n xs) (hg : (X.alloc o).grownBy w1 v.ownBlock) : KeepsOthers X w1 :=
  (KeepsOthers.alloc X o).trans (KeepsOthers.of_grownBy hg fun j ob hj ho => by
    have hlt := (h.lt j hj).2
    rw [Below.heap_alloc X o j hlt] at ho
    exact own_cells h j ob hj ho)

/-- The name of the last one. -/
def lastN (pre : List PR) : ByteArray := (pre.getLast?.map PR.n).getD ⟨#[]⟩
theorem lastN_snoc (pre : List PR) (x : PR) : lastN (pre ++ [x]) = x.n := by simp [lastN]
/-- As many as there are ahead; the same names, the same types. -/
def Ahead (ls pre : List PR) : Prop := pre.length ≤ ls.length ∧ ∀ i, i < pre.length → (pre.getD i noP).n = (ls.getD i noP).n ∧ (pre.getD i noP).t = (ls.getD i noP).t
theorem Ahead.nil (ls : List PR) : Ahead ls [] := ⟨Nat.zero_le _, fun _ hi => absurd hi (Nat.not_lt_zero _)⟩
theorem Ahead.snoc {ls pre : List PR} (h : Ahead ls pre) {x : PR} (hx : pre.length < ls.length ∧ x.n = (ls.getD pre.length noP).n ∧ x.t = (ls.getD pre.length noP).t) : Ahead ls (pre ++ [x]) := by
  refine ⟨by simp; omega, fun i hi => ?_⟩
  rw [List.length_append, List.length_singleton] at hi
  by_cases e : i = pre.length
  · subst e
    have : (pre ++ [x]).getD pre.length noP = x := by simp [List.getD]
    rw [this]; exact hx.2
  · have hlt : i < pre.length := by omega
    have : (pre ++ [x]).getD i noP = pre.getD i noP := by simp [List.getD, List.getElem?_append_left hlt]
    rw [this]; exact h.2 i hlt
theorem Ahead.copy {ls q : List PR} (h : Ahead ls q) (hl : q.length = ls.length) : Copy q ls := ⟨hl, h.2⟩
/-- In a row in order the last one's name is less than the next one's. -/
theorem Ahead.less {ls pre : List PR} (h : Ahead ls pre) (hn : Neat ls) (h0 : pre ≠ []) {x : PR} (hx : pre.length < ls.length ∧ x.n = (ls.getD pre.length noP).n) : Op.bytesLess x.n.toList (lastN pre).toList = false ∧ ¬ x.n.toList = (lastN pre).toList := by
  have hp : 0 < pre.length := List.length_pos_iff.2 h0
  have e : lastN pre = (pre.getD (pre.length - 1) noP).n := by
    unfold lastN
    rw [List.getLast?_eq_getElem?]
    simp [List.getD, List.getElem?_eq_getElem (show pre.length - 1 < pre.length by omega)]
  rw [e, (h.2 _ (by omega)).1, hx.2]
  have hs := List.pairwise_iff_getElem.1 hn.1 (pre.length - 1) pre.length (by omega) hx.1 (by omega)
  have e1 : ls.getD (pre.length - 1) noP = ls[pre.length - 1]'(by omega) := by simp [List.getD, List.getElem?_eq_getElem (show pre.length - 1 < ls.length by omega)]
  have e2 : ls.getD pre.length noP = ls[pre.length]'hx.1 := by simp [List.getD, List.getElem?_eq_getElem hx.1]
  rw [e1, e2, Lib.toList_data, Lib.toList_data, less_cmpL]
  have := hs
  unfold cmpP at this
  have hu := cmpL_neg (ls[pre.length - 1]'(by omega)).n.data.toList (ls[pre.length]'hx.1).n.data.toList
  refine ⟨by simp; omega, fun e => ?_⟩
  rw [e, cmpL_zero.2 rfl] at this
  omega
theorem next_lk {ls : List PR} (hn : Neat ls) {i : Nat} (hi : i < ls.length) : lk (ls.getD i noP).n ls = some (ls.getD i noP) := lk_sorted hn.1 (getD_mem hi)
theorem next_own {ls : List PR} (hn : Neat ls) {i : Nat} (hi : i < ls.length) : (ls.getD i noP).t ≠ .var (ls.getD i noP).n := fun e => by
  have := hn.2 _ (getD_mem hi)
  rw [ownP_iff.2 e] at this; cases this
theorem kind_name {t : T} {n : ByteArray} (hk : t.kind = 1) (h : t ≠ .var n) : t.name ≠ n := by
  cases t with
  | var m => intro e; exact h (by simp only [T.name] at e; rw [e])
  | con m l => simp [T.kind] at hk
  | fn a b => simp [T.kind] at hk
  | all m a => simp [T.kind] at hk

/-- What the rounds keep: how many, the last name, the row of what was told; all that lay in V. -/
def QI (b M : Nat) (V : World) (ls : List PR) (s : Value) (pre : List PR) (X : World) : Prop :=
  ((X.heap[b + 1]? = some (.cells #[.int .i64 (pre.length : Int)] 3 (0, 0)) ∧ X.heap[b + 2]? = some (.cells #[.string (lastN pre)] 9 (0, 0)) ∧ X.heap[b + 3]? = some (.cells #[s] 71 (0, 0))) ∧
    X.ownsRow M 90 4 s pre.length (cellsP pre) ∧ (pre = [] → s = .slice none 0 0)) ∧ (Typ pre X ∧ Ahead ls pre) ∧ M ≤ X.heap.size ∧ Below (b + 1) V X
theorem QI.kept {b M : Nat} {V : World} {ls : List PR} {s : Value} {pre : List PR} {X Y : World} {row : Option Nat} (h : QI b M V ls s pre X) (hg : X.grownBy Y row) (hr : ∀ r, row = some r → ∃ o : Obj, X.heap[r]? = some o ∧ o.isCells = false) (hb : Below (b + 1) V Y) : QI b M V ls s pre Y :=
  ⟨⟨⟨block_kept h.1.1.1 hg hr, block_kept h.1.1.2.1 hg hr, block_kept h.1.1.2.2 hg hr⟩, row_kept h.1.2.1 fun _ _ _ hk => block_kept hk hg hr, h.1.2.2⟩, ⟨h.2.1.1.keep fun _ _ _ hk => block_kept hk hg hr, h.2.1.2⟩, Nat.le_trans h.2.2.1 hg.size, hb⟩
theorem QI.below {b M : Nat} {V : World} {ls : List PR} {s : Value} {pre : List PR} {X Y : World} (h : QI b M V ls s pre X) (hb : Below X.heap.size X Y) (hN : b + 1 ≤ M) : QI b M V ls s pre Y :=
  h.kept (row := none) (grown_of_below hb) (fun r e => by cases e) (h.2.2.2.trans (hb.mono (by have := h.2.2.1; omega)))
end Go.Proofs.YtjnlchhikdfifaaGreatDoor
/- The document's Apply. -/
namespace Go.Proofs.YtjnlchhikdfifaaGreatDoor
open Go.RowKit Go.Sort Go.Lib
attribute [local go_sem] Oper.semAt_some

/-- A type, where its row lies. -/
abbrev Tl := T × Option Addr × Nat
/-- The cells of a row of types. -/
def cellsOf (l : List Tl) : List Value := l.flatMap (fun x => [.int .i64 x.1.kind, .string x.1.name, .slice x.2.1 x.1.kids.length x.2.2])
theorem cellsOf_snoc (l : List Tl) (x : Tl) : cellsOf (l ++ [x]) = cellsOf l ++ [.int .i64 x.1.kind, .string x.1.name, .slice x.2.1 x.1.kids.length x.2.2] := by simp [cellsOf]
theorem cellsOf_cons (x : Tl) (l : List Tl) : cellsOf (x :: l) = [.int .i64 x.1.kind, .string x.1.name, .slice x.2.1 x.1.kids.length x.2.2] ++ cellsOf l := by simp [cellsOf]
theorem cellsOf_at (l : List Tl) (i : Nat) (h : i < l.length) : (cellsOf l)[i * 3]? = some (.int .i64 l[i].1.kind) ∧ (cellsOf l)[i * 3 + 1]? = some (.string l[i].1.name) ∧ (cellsOf l)[i * 3 + 2]? = some (.slice l[i].2.1 l[i].1.kids.length l[i].2.2) := by
  induction l generalizing i with
  | nil => cases h
  | cons x l ih =>
    rw [cellsOf_cons]
    cases i with
    | zero => exact ⟨rfl, rfl, rfl⟩
    | succ i =>
      have := ih i (by simpa using h)
      rw [show (i + 1) * 3 = i * 3 + 3 by omega, List.getElem?_append_right (by simp), List.getElem?_append_right (by simp), List.getElem?_append_right (by simp)]
      simp only [List.length_cons, List.length_nil, List.getElem_cons_succ]
      rw [show i * 3 + 3 - (0 + 1 + 1 + 1) = i * 3 by omega, show i * 3 + 3 + 1 - (0 + 1 + 1 + 1) = i * 3 + 1 by omega, show i * 3 + 3 + 2 - (0 + 1 + 1 + 1) = i * 3 + 2 by omega]
      exact this
/-- A row of types out of its cells, in blocks that are ok. -/
theorem in_of_row {ok : Nat → Prop} {W : World} {B : Nat} {v : Value} {xs : List Tl} {t : T} (ht : t.kids = xs.map (·.1)) (h : W.ownsRow B 31 3 v xs.length (cellsOf xs)) (hv : ∀ g, v.ownBlock = some g → ok g) (hk : ∀ x ∈ xs, TyIn ok W x.1 (.slice x.2.1 x.1.kids.length x.2.2)) : TyIn ok W t v := by
  have hlen : t.kids.length = xs.length := by rw [ht]; simp
  rcases h.2 with ⟨rfl, h0⟩ | ⟨g, cap, cur, rfl, _, hg, hc, _, hsz, htk⟩
  · exact .leaf t none 0 (List.length_eq_zero_iff.1 (hlen.trans h0))
  · have hat : ∀ j, j < xs.length * 3 → cur[j]? = (cellsOf xs)[j]? := fun j hj => by
      rw [← htk, List.getElem?_take, if_pos hj, Array.getElem?_toList]
    rw [← hlen]
    refine .row t g cap cur (0, 0) (fun i => if h : i < xs.length then .slice xs[i].2.1 xs[i].1.kids.length xs[i].2.2 else undef) (hv g rfl) hg (by omega) (fun i hi => ?_) (fun i hi => ?_)
    · have hi' : i < xs.length := by omega
      obtain ⟨e1, e2, e3⟩ := cellsOf_at xs i hi'
      have ek : t.kids[i] = xs[i].1 := by simp [ht]
      simp only [dif_pos hi', ek]
      exact ⟨(hat _ (by omega)).trans e1, (hat _ (by omega)).trans e2, (hat _ (by omega)).trans e3⟩
    · have hi' : i < xs.length := by omega
      have ek : t.kids[i] = xs[i].1 := by simp [ht]
      simp only [dif_pos hi', ek]
      exact hk _ (List.getElem_mem hi')
/-- A part of a row. -/
theorem TyIn.part {K : Nat → Prop} {X : World} {t : T} {a : Option Addr} {c : Nat} (h : TyIn K X t (.slice a t.kids.length c)) (i : Nat) (hi : i < t.kids.length) : ∃ g pa ca, a = some ⟨g, 0, none⟩ ∧ t.kids.length ≤ c ∧ ∀ W, KeepK K X W → (g < W.heap.size ∧ W.cell? ⟨g, i * 3, none⟩ = some (.int .i64 t.kids[i].kind) ∧ W.cell? ⟨g, i * 3 + 1, none⟩ = some (.string t.kids[i].name) ∧ W.cell? ⟨g, i * 3 + 2, none⟩ = some (.slice pa t.kids[i].kids.length ca)) ∧ TyIn K W t.kids[i] (.slice pa t.kids[i].kids.length ca) := by
  obtain ⟨v, hv⟩ : ∃ v, v = Value.slice a t.kids.length c := ⟨_, rfl⟩
  rw [← hv] at h
  cases h with
  | leaf _ _ _ h0 => rw [h0] at hi; cases hi
  | row _ g cap cs fz z h0 h1 h2 h3 h4 =>
    cases hv
    obtain ⟨pa, ca, e⟩ := (h4 i hi).shape
    obtain ⟨c1, c2, c3⟩ := h3 i hi
    rw [e] at c3
    refine ⟨g, pa, ca, rfl, h2, fun W hk => ?_⟩
    have hW := (hk g h0 (Array.getElem?_eq_some_iff.1 h1).1).trans h1
    refine ⟨⟨(Array.getElem?_eq_some_iff.1 hW).1, ?_, ?_, ?_⟩, ?_⟩
    · simp only [World.cell?, hW]; simpa using c1
    · simp only [World.cell?, hW]; simpa using c2
    · simp only [World.cell?, hW]; simpa using c3
    · rw [← e]; exact (h4 i hi).keepK hk

/-- The pairs that the document's Apply is handed: their types' rows lie ahead of N. -/
def Src4 (N : Nat) (v : Value) (d : List PR) (w : World) : Prop := GivenG 53 v d w ∧ (∀ x ∈ d, TyIn (fun k => k < N) w x.t (.slice x.a x.t.kids.length x.c)) ∧ N ≤ w.heap.size
theorem Src4.below {N : Nat} {v : Value} {d : List PR} {w W : World} (h : Src4 N v d w) (hb : Below w.heap.size w W) : Src4 N v d W :=
  ⟨h.1.below hb, fun x hx => (h.2.1 x hx).keep fun k _ _ hk hh => (hb.block k (by have := h.2.2; omega)).trans hh, Nat.le_trans h.2.2 hb.size⟩
def RApp (d : List PR) (t : T) : Prop := ∀ (N : Nat) (v : Value) (a : Option Addr) (c : Nat) (w : World), Src4 N v d w → TyIn (fun k => k < N) w t (.slice a t.kids.length c) → tsize t ≤ 1000000000 →
    Calls Tryz.prog 27 #[v, tyV t (.slice a t.kids.length c)] w fun e w' => (∃ a' c', e = .returned (tyV (app d t) (.slice a' (app d t).kids.length c')) ∧ TyIn (fun k => k < N ∨ w.heap.size ≤ k) w' (app d t) (.slice a' (app d t).kids.length c')) ∧ Below w.heap.size w w'

set_option maxRecDepth 100000 in
set_option maxHeartbeats 4000000 in
theorem rapp_var (d : List PR) (hl : d.length < 1000000) (n : ByteArray) : RApp d (.var n) := by
  intro N v a c w hs ht hz
  have HG := Lib.hid (fun (V : World) (hb : Below w.heap.size w V) => rget_any v d n V (hs.1.below hb) (by omega))
  have HS := Lib.hid hs
  obtain ⟨av, cv, rfl, _⟩ := hs.1.shape
  have HB2 := Lib.hid (fun o1 o2 => below_two w o1 o2)
  have e0 : (T.var n).kids.length = 0 := rfl
  have e1 : (T.var n).kind = 1 := rfl
  have e2 : (T.var n).name = n := rfl
  obtain ⟨res, hres⟩ : ∃ r, lk n d = r := ⟨_, rfl⟩
  have HRes := Lib.hid hres
  have hap : app d (.var n) = ((res.map PR.t).getD (.var n)) := by rw [app_v]; unfold ty; rw [hres]
  rw [hap]
  simp only [tyV, e0, e1, e2]
  clear hs ht hz hap e0 e1 e2
  rw [hres] at HG
  clear hres
  go_enter Tryz.func27, Tryz.ntmps27
  cases res with
  | none =>
    simp only [fv', Option.isSome_none, Option.map_none, Option.getD_none] at HG ⊢
    go_wp2_with (go_at_call 55; refine (HG.out _ (HB2.out _ _)).mono ?_)
    rintro e w2 ⟨rfl, hb2⟩
    have hbw : Below w.heap.size w w2 := (HB2.out _ _).trans (hb2.mono (by simp; omega))
    have hy := (hb2.block w.heap.size (by simp; omega)).trans ((Below.heap_alloc _ _ _ (by simp)).trans (alloc_new w _))
    have hz := (hb2.block (w.heap.size + 1) (by simp)).trans (new_two w _ _)
    obtain ⟨y0, y1, y2⟩ := three_cells hy
    obtain ⟨z0, z1, z2⟩ := three_cells hz
    have u0 := Lib.frozen_of_heap hz 0
    have u1 := Lib.frozen_of_heap hz 1
    have u2 := Lib.frozen_of_heap hz 2
    have ly := (Array.getElem?_eq_some_iff.1 hy).1
    have lz := (Array.getElem?_eq_some_iff.1 hz).1
    have HB := Lib.hid hbw
    have HZ := Lib.hid hz
    have lW : w.heap.size < w2.heap.size := by omega
    clear hb2 hbw hy hz HG
    go_wp2
    have hs3 := set3_block HZ.out (.int .i64 1) (.string n) (.slice a 0 c)
    have hc := three_cells ((Below.heap_alloc _ (.cells #[.int .i64 0, .string ⟨#[]⟩, .slice none 0 0] 31) _ (Array.getElem?_eq_some_iff.1 hs3).1).trans hs3)
    exact bodyPost_ret (v := .agg #[.int .i64 1, .string n, .slice a 0 c]) (by simp [results, Tryz.results27, go_sem, hc.1, hc.2.1, hc.2.2]) rfl ⟨⟨a, c, rfl, .leaf _ _ _ rfl⟩, (below_set3 HB.out (Nat.le_succ _) _ _ _).alloc (by have := HB.out.size; simp; omega) _⟩
  | some x =>
    simp only [fv', Option.isSome_some, Option.map_some, Option.getD_some] at HG ⊢
    have HX := Lib.hid (HS.out.2.1 x (lk_name HRes.out).1)
    have HN := Lib.hid HS.out.2.2
    go_wp2_with (go_at_call 55; refine (HG.out _ (HB2.out _ _)).mono ?_)
    rintro e w2 ⟨rfl, hb2⟩
    have hbw : Below w.heap.size w w2 := (HB2.out _ _).trans (hb2.mono (by simp; omega))
    have hy := (hb2.block w.heap.size (by simp; omega)).trans ((Below.heap_alloc _ _ _ (by simp)).trans (alloc_new w _))
    have hz := (hb2.block (w.heap.size + 1) (by simp)).trans (new_two w _ _)
    obtain ⟨y0, y1, y2⟩ := three_cells hy
    obtain ⟨z0, z1, z2⟩ := three_cells hz
    have u0 := Lib.frozen_of_heap hz 0
    have u1 := Lib.frozen_of_heap hz 1
    have u2 := Lib.frozen_of_heap hz 2
    have ly := (Array.getElem?_eq_some_iff.1 hy).1
    have lz := (Array.getElem?_eq_some_iff.1 hz).1
    have HB := Lib.hid hbw
    have HZ := Lib.hid hz
    have lW : w.heap.size < w2.heap.size := by omega
    clear hb2 hbw hy hz HG
    go_wp2
    have hs3 := set3_block HZ.out (.int .i64 x.t.kind) (.string x.t.name) (.slice x.a x.t.kids.length x.c)
    have hc := three_cells ((Below.heap_alloc _ (.cells #[.int .i64 x.t.kind, .string x.t.name, .slice x.a x.t.kids.length x.c] 31) _ (Array.getElem?_eq_some_iff.1 hs3).1).trans hs3)
    refine bodyPost_ret (v := .agg #[.int .i64 x.t.kind, .string x.t.name, .slice x.a x.t.kids.length x.c]) (by simp [results, Tryz.results27, go_sem, hc.1, hc.2.1, hc.2.2]) rfl ⟨⟨x.a, x.c, rfl, ?_⟩, (below_set3 HB.out (Nat.le_succ _) _ _ _).alloc (by have := HB.out.size; simp; omega) _⟩
    refine (HX.out.keep fun k _ _ hk hh => ?_).mono fun k hk => .inl hk
    have hkw : k < w.heap.size := Nat.lt_of_lt_of_le hk HN.out
    exact (Below.heap_alloc _ _ k (by simp; omega)).trans ((set3_others _ _ _ (by omega)).trans ((HB.out.block k hkw).trans hh))
end Go.Proofs.YtjnlchhikdfifaaGreatDoor
/- The document's Apply, of all types. -/
namespace Go.Proofs.YtjnlchhikdfifaaGreatDoor
open Go.RowKit Go.Sort Go.Lib
attribute [local go_sem] Oper.semAt_some

/-- One more at the row's end: what lay beside the row lies beside it still. -/
theorem beside_next {ok : Nat → Prop} {X w1 : World} {o : Obj} {s v' : Value} {g : Nat} {xs : List Tl} {x : Tl} (hx : ∀ y ∈ xs, TyIn (fun k => ok k ∧ some k ≠ s.ownBlock) X y.1 (.slice y.2.1 y.1.kids.length y.2.2)) (hnew : TyIn (fun k => ok k ∧ some k ≠ s.ownBlock) X x.1 (.slice x.2.1 x.1.kids.length x.2.2))
    (hg : (X.alloc o).grownBy w1 s.ownBlock) (hat : s.ownBlock = some g ∨ g = (X.alloc o).heap.size) (hv' : v'.ownBlock = some g) : ∀ y ∈ xs ++ [x], TyIn (fun k => ok k ∧ some k ≠ v'.ownBlock) w1 y.1 (.slice y.2.1 y.1.kids.length y.2.2) := by
  have key : ∀ {t : T} {v : Value}, TyIn (fun k => ok k ∧ some k ≠ s.ownBlock) X t v → TyIn (fun k => ok k ∧ some k ≠ v'.ownBlock) w1 t v := fun {t v} ht => by
    have hgk : ∀ k, some k ≠ s.ownBlock ∧ k < X.heap.size → k ≠ g := fun k hk e => by
      subst e
      rcases hat with e | e
      · exact hk.1 e.symm
      · have := hk.2; simp at e; omega
    refine (ht.lt.keep fun k cs fz hk hh => ?_).mono fun k hk => ⟨hk.1.1, by rw [hv']; exact fun e => hgk k ⟨hk.1.2, hk.2⟩ (by simpa using e)⟩
    exact (hg.block k (by simp; omega) hk.1.2).trans ((Below.heap_alloc X o k hk.2).trans hh)
  intro y hy
  rcases List.mem_append.1 hy with hy | hy
  · exact key (hx y hy)
  · rw [List.mem_singleton.1 hy]; exact key hnew
theorem cell_new3 (w : World) (x y z : Value) (t : TypeId) : ∀ j v, [x, y, z][j]? = some v → (w.alloc (.cells #[x, y, z] t)).cell? ((⟨w.heap.size, 0, none⟩ : Addr).add j) = some v := by
  intro j v hv
  have hadd : (⟨w.heap.size, 0, none⟩ : Addr).add j = ⟨w.heap.size, j, none⟩ := by unfold Addr.add; split <;> simp_all
  rw [hadd]
  have := alloc_new w (.cells #[x, y, z] t)
  simp only [World.cell?, this]
  match j, hv with
  | 0, hv => simpa using hv
  | 1, hv => simpa using hv
  | 2, hv => simpa using hv
  | n + 3, hv => simp at hv
/-- What the loop keeps. -/
def AI (N : Nat) (w : World) (l : List T) (v : Value) (n : Nat) (wr : World) : Prop :=
  (∃ xs : List Tl, (xs.map (·.1) = l ∧ n = xs.length) ∧ wr.ownsRow (w.heap.size + 1 + 1) 31 3 v xs.length (cellsOf xs) ∧ ∀ x ∈ xs, TyIn (fun k => (k < N ∨ w.heap.size + 1 + 1 ≤ k) ∧ some k ≠ v.ownBlock) wr x.1 (.slice x.2.1 x.1.kids.length x.2.2)) ∧ Below w.heap.size w wr ∧ w.heap.size + 1 + 1 ≤ wr.heap.size
theorem AI.below {N : Nat} {w : World} {l : List T} {v : Value} {n : Nat} {X Y : World} (h : AI N w l v n X) (hb : Below X.heap.size X Y) : AI N w l v n Y := by
  obtain ⟨⟨xs, h1, h2, h3⟩, h4, h5⟩ := h
  refine ⟨⟨xs, h1, row_kept h2 fun k _ _ hk => (hb.block k (Array.getElem?_eq_some_iff.1 hk).1).trans hk, fun x hx => (h3 x hx).keep fun k _ _ _ hk => (hb.block k (Array.getElem?_eq_some_iff.1 hk).1).trans hk⟩, h4.trans (hb.mono h4.size), Nat.le_trans h5 hb.size⟩

set_option maxRecDepth 100000 in
set_option maxHeartbeats 4000000 in
theorem rapp_step (d : List PR) (t : T) (hv : ∀ n, t ≠ .var n) (H : ∀ k ∈ t.kids, RApp d k) : RApp d t := by
  intro N v a c w hs ht hz
  have hz' := tsize_eq t
  have hlen := len_sizes' t.kids
  have hk1 := kind_one hv
  obtain ⟨p1, p2, p3⟩ := app_parts d t hv
  have HS := Lib.hid hs
  have HR := Lib.hid ht.part
  have HH := Lib.hid H
  have HN := Lib.hid hs.2.2
  obtain ⟨av, cv, rfl, _⟩ := hs.1.shape
  obtain ⟨i0, hi, hz0, hz1, hz2⟩ := info_parts Tryz.infoTy
  have HB2 := Lib.hid (fun o1 o2 => below_two w o1 o2)
  have HP := Lib.hid (And.intro p1 (And.intro p2 p3))
  clear hs ht H p1 p2 p3 hv
  simp only [tyV]
  go_enter Tryz.func27, Tryz.ntmps27
  go_wp2
  go_loopw [7, 8] (fun vo vi wr => ∃ (i n e : Nat) (b : Option Addr), i ≤ t.kids.length ∧ vi = .int .i64 i ∧ vo = .slice b n e ∧ Hid (AI N w ((t.kids.take i).map (app d)) (.slice b n e) n wr) ∧ Hid (wr.heap[w.heap.size]? = some (.cells #[.int .i64 t.kind, .string t.name, .slice a t.kids.length c] 31 (0, 0)) ∧ wr.heap[w.heap.size + 1]? = some (.cells #[.int .i64 0, .string ⟨#[]⟩, .slice none 0 0] 31 (0, 0)))) (fun _ vi _ => t.kids.length - (intOf vi).toNat)
  case atStart =>
    exact ⟨0, 0, 0, none, Nat.zero_le _, rfl, rfl, Lib.hid ⟨⟨[], ⟨rfl, rfl⟩, World.ownsRow_nil _ _ _ _, (fun _ h => nomatch h)⟩, HB2.out _ _, by simp⟩, Lib.hid ⟨(Below.heap_alloc _ _ _ (by simp)).trans (alloc_new w _), new_two w _ _⟩⟩
  case round =>
    obtain ⟨i, n, e, b, hi', rfl, rfl, hF, hBox⟩ := hrel
    obtain ⟨b0, b1, b2⟩ := three_cells hBox.out.1
    obtain ⟨z0, z1, z2⟩ := three_cells hBox.out.2
    have lz := (Array.getElem?_eq_some_iff.1 hBox.out.2).1
    have ly := (Array.getElem?_eq_some_iff.1 hBox.out.1).1
    by_cases hlt : i < t.kids.length
    · obtain ⟨⟨xs, ⟨hx1, rfl⟩, hrow, hbs⟩, hBl, hsz⟩ := hF.out
      obtain ⟨g, pa, ca, rfl, hcap, hr⟩ := HR.out i hlt
      obtain ⟨⟨hg, x0, x1, x2⟩, xk⟩ := hr wr (fun k hk hx => hBl.block k hx)
      have hkk := size_mem' (List.getElem_mem hlt)
      have HC := Lib.hid (HH.out t.kids[i] (List.getElem_mem hlt) N _ pa ca wr (HS.out.below hBl) xk (by omega))
      obtain rfl : i = xs.length := by have := congrArg List.length hx1; simp at this; omega
      have HTk := Lib.hid (show (t.kids.take (xs.length + 1)).map (app d) = (t.kids.take xs.length).map (app d) ++ [app d t.kids[xs.length]] by rw [List.take_succ_eq_append_getElem hlt, List.map_append]; rfl)
      have HX1 := Lib.hid hx1
      have HRow := Lib.hid hrow; have HBs := Lib.hid hbs; have HBl := Lib.hid hBl; have HSz := Lib.hid hsz
      have HPc := Lib.hid HP.out.1
      clear hr xk hkk HH HR hx1 hrow hbs hBl hF
      generalize t.kids[xs.length] = u at x0 x1 x2 HC HTk
      simp only [tyV] at HC
      have hlt1 : ((xs.length : Int) < (t.kids.length : Int)) := by omega
      have hxs : xs.length ≤ 1000000000 := by omega
      go_wp2_with (first
        | (go_at_call 27; refine HC.out.mono ?_; rintro e2 w2 ⟨⟨a2, c2, rfl, g1⟩, g2⟩; have G1 := Lib.hid g1; have G2 := Lib.hid g2; have hq1 := (g2.block _ ly).trans hBox.out.1; have hq2 := (g2.block _ lz).trans hBox.out.2; have HBox2 := Lib.hid (And.intro hq1 hq2); have HRow2 := Lib.hid (row_kept HRow.out fun k cs fz hk => (g2.block k (Array.getElem?_eq_some_iff.1 hk).1).trans hk); clear g1 g2 hq1 hq2)
        | (at_builtin; refine wpList_append_lies _ rfl _ _ 29 rfl (w.heap.size + 1 + 1) 31 i0 (.agg #[.int .i64 0, .string ⟨#[]⟩, .slice none 0 0]) 3 48 Tryz.underlying29 hi hz0 hz1 hz2 rfl (by decide) _ _ _ rfl (HRow2.out.alloc _) ⟨w2.heap.size, 0, none⟩ 1 1 [.int .i64 (app d u).kind, .string (app d u).name, .slice a2 (app d u).kids.length c2] rfl rfl (cell_new3 _ _ _ _ _) (by simp [Value.oneCell']) (by decide) (by unfold maxLen; omega) (by omega) (by have := HSz.out; have := G2.out.size; simp; omega) _ rfl ?_; intro g3 cap3 w3 ho3 hg3 hat3 hlt3; have HO3 := Lib.hid ho3; have HG3 := Lib.hid hg3; have HAt3 := Lib.hid hat3; clear ho3 hg3 hat3 hlt3))
      go_roundw
      case rel =>
        have hlo := HRow.out.lt
        have hw2 := G2.out.size
        have hwl := HBl.out.size
        refine ⟨xs.length + 1, xs.length + 1, cap3, some ⟨g3, 0, none⟩, by omega, by go_num, rfl, Lib.hid ⟨⟨xs ++ [(app d u, a2, c2)], ⟨?_, by simp⟩, ?_, ?_⟩, ?_, ?_⟩, Lib.hid ⟨?_, ?_⟩⟩
        · rw [HTk.out, List.map_append, HX1.out]; rfl
        · rw [cellsOf_snoc, List.length_append]; exact HO3.out
        · refine beside_next (fun y hy => (HBs.out y hy).keep fun k _ _ _ hk => (G2.out.block k (Array.getElem?_eq_some_iff.1 hk).1).trans hk) (G1.out.mono fun k hk => ⟨?_, fun e => ?_⟩) HG3.out HAt3.out rfl
          · rcases hk with hk | hk
            · exact .inl hk
            · exact .inr (Nat.le_trans HSz.out hk)
          · have := hlo k e.symm
            have := HN.out
            rcases hk with hk | hk <;> omega
        · exact ((HBl.out.trans (G2.out.mono hwl)).alloc (by omega) _).grown HG3.out (by simp; omega) (fun j hj => by have := (hlo j hj).1; omega)
        · have := HG3.out.size; simp at this; omega
        · exact (HG3.out.block _ (by simp; omega) (fun e => by have := (hlo _ e.symm).1; omega)).trans ((Below.heap_alloc w2 _ _ (by omega)).trans HBox2.out.1)
        · exact (HG3.out.block _ (by simp; omega) (fun e => by have := (hlo _ e.symm).1; omega)).trans ((Below.heap_alloc w2 _ _ (by omega)).trans HBox2.out.2)
      case measure => simp [intOf]; omega
    · obtain rfl : i = t.kids.length := by omega
      rw [List.take_length] at hF
      have fb := Lib.frozen_of_heap hBox.out.1 2
      have u0 := Lib.frozen_of_heap hBox.out.2 0
      have u1 := Lib.frozen_of_heap hBox.out.2 1
      have u2 := Lib.frozen_of_heap hBox.out.2 2
      clear HR HH HS
      go_wp2
      obtain ⟨⟨xs, ⟨hx1, rfl⟩, hrow, hbs⟩, hBl, hsz⟩ := hF.out
      have hz4 := (Below.heap_setCell wr ⟨w.heap.size, 2, none⟩ (.slice b xs.length e) (w.heap.size + 1) (by simp)).trans hBox.out.2
      have hs3 := set3_block hz4 (.int .i64 t.kind) (.string t.name) (.slice b xs.length e)
      have hc := three_cells hs3
      have hlen2 : (app d t).kids.length = xs.length := by rw [HP.out.2.2, ← hx1]; simp
      have hin : TyIn (fun k => k < N ∨ w.heap.size + 1 + 1 ≤ k) wr (app d t) (.slice b xs.length e) := in_of_row (by rw [HP.out.2.2, hx1]) hrow (fun g hg => .inr (hrow.lt g hg).1) (fun x hx => (hbs x hx).mono fun k hk => hk.1)
      refine bodyPost_ret (v := .agg #[.int .i64 t.kind, .string t.name, .slice b xs.length e]) (by simp [results, Tryz.results27, go_sem, hc.1, hc.2.1, hc.2.2]) rfl ⟨⟨b, e, by rw [HP.out.1, HP.out.2.1, hlen2], ?_⟩, below_set3 (hBl.setCell (p := ⟨w.heap.size, 2, none⟩) (Nat.le_refl _) _) (Nat.le_succ _) _ _ _⟩
      rw [hlen2]
      refine (hin.keep fun k _ _ hk hh => ?_).mono fun k hk => hk.imp id (fun h => by omega)
      have hkN : k ≠ w.heap.size ∧ k ≠ w.heap.size + 1 := by have := HN.out; rcases hk with hk | hk <;> omega
      exact (set3_others _ _ _ hkN.2).trans ((Below.heap_setCell wr ⟨w.heap.size, 2, none⟩ _ k hkN.1).trans hh)
theorem rapp_ok (d : List PR) (hl : d.length < 1000000) (t : T) : RApp d t :=
  T.by_kids (P := RApp d) (fun t H => by
    cases t with
    | var n => exact rapp_var d hl n
    | con n l => exact rapp_step d _ (fun m h => by cases h) H
    | fn a b => exact rapp_step d _ (fun m h => by cases h) H
    | all n a => exact rapp_step d _ (fun m h => by cases h) H) t
/-- The document's Apply, whose result is told. -/
theorem rapp_big {d : List PR} {v : Value} {t : T} {a : Option Addr} {c : Nat} {w : World} (hl : d.length < 1000000) (hg : GivenG 53 v d w) (ht : Typ d w) (h : TysAt w (.slice a t.kids.length c) t.kids) (hz : tsize t ≤ 1000000000) :
    Calls Tryz.prog 27 #[v, .agg #[.int .i64 t.kind, .string t.name, .slice a t.kids.length c]] w fun e Y => (∃ za zc, e = .returned (.agg #[.int .i64 (app d t).kind, .string (app d t).name, .slice za (app d t).kids.length zc]) ∧ TysAt Y (.slice za (app d t).kids.length zc) (app d t).kids) ∧ Below w.heap.size w Y := by
  have lt : ∀ (k : Nat) (cs : Array Value) (fz : Nat × Nat), w.heap[k]? = some (.cells cs 31 fz) → k < w.heap.size := fun k _ _ hk => (Array.getElem?_eq_some_iff.1 hk).1
  refine (rapp_ok d hl t w.heap.size v a c w ⟨hg, fun x hx => (ht x hx).inside lt, Nat.le_refl _⟩ (h.inside lt) hz).mono ?_
  rintro e Y ⟨⟨a', c', rfl, hin⟩, hb⟩
  exact ⟨⟨a', c', rfl, hin.tys⟩, hb⟩
theorem rapp_ret {d : List PR} {v : Value} {t : T} {a : Option Addr} {c : Nat} {w : World} (hl : d.length < 1000000) (hg : GivenG 53 v d w) (ht : Typ d w) (h : TysAt w (.slice a t.kids.length c) t.kids) (hz : tsize t ≤ 1000000) :
    Calls Tryz.prog 27 #[v, .agg #[.int .i64 t.kind, .string t.name, .slice a t.kids.length c]] w fun e Y => (∃ za zc, e = .returned (.agg #[.int .i64 (app d t).kind, .string (app d t).name, .slice za (app d t).kids.length zc]) ∧ TysAt Y (.slice za (app d t).kids.length zc) (app d t).kids) ∧ Below w.heap.size w Y :=
  rapp_big hl hg ht h (Nat.le_trans hz (by decide))
end Go.Proofs.YtjnlchhikdfifaaGreatDoor
/- paideiaref4's all: a type, then those of a context. -/
namespace Go.Proofs.YtjnlchhikdfifaaGreatDoor
open Go.RowKit Go.Sort Go.Lib
attribute [local go_sem] Oper.semAt_some

/-- What the loop keeps: the types so far, in a row of one's own; their parts lie as they lay. -/
def ALI (w : World) (l : List T) (v : Value) (n : Nat) (wr : World) : Prop :=
  (∃ xs : List Tl, (xs.map (·.1) = l ∧ n = xs.length) ∧ wr.ownsRow w.heap.size 31 3 v xs.length (cellsOf xs) ∧ ∀ x ∈ xs, TyIn (fun k => k < w.heap.size) w x.1 (.slice x.2.1 x.1.kids.length x.2.2)) ∧ Below w.heap.size w wr
theorem ali_start {w : World} {o : Obj} {t : T} {a : Option Addr} {c : Nat} (h : TyIn (fun k => k < w.heap.size) w t (.slice a t.kids.length c)) :
    ALI w [t] (.slice (some ⟨w.heap.size + 1, 0, none⟩) 1 1) 1 ((w.alloc o).alloc (.cells #[.int .i64 t.kind, .string t.name, .slice a t.kids.length c] 31)) :=
  ⟨⟨[(t, a, c)], ⟨rfl, rfl⟩, ⟨rfl, .inr ⟨w.heap.size + 1, 1, #[.int .i64 t.kind, .string t.name, .slice a t.kids.length c], rfl, by omega, new_two w o _, Nat.le_refl _, by unfold maxLen; omega, rfl, rfl⟩⟩, fun x hx => by rw [List.mem_singleton.1 hx]; exact h⟩, below_two w _ _⟩
set_option maxRecDepth 100000 in
set_option maxHeartbeats 4000000 in
theorem rallc_any (t : T) (lc : List Pr) (ta va : Option Addr) (tc vc : Nat) (w : World) (ht : TysAt w (.slice ta t.kids.length tc) t.kids) (hP : PrsAt w (.slice va lc.length vc) lc) (hn : lc.length ≤ 1000000) :
    Calls Tryz.prog 36 #[.agg #[.int .i64 t.kind, .string t.name, .slice ta t.kids.length tc], .slice va lc.length vc] w fun e w' =>
      (∃ a c, e = .returned (.slice a (lc.length + 1) c) ∧ TysAt w' (.slice a (lc.length + 1) c) (t :: lc.map (·.2))) ∧ Below w.heap.size w w' := by
  obtain ⟨i0, hi, hz0, hz1, hz2⟩ := info_parts Tryz.infoTy
  have lt : ∀ (k : Nat) (cs : Array Value) (fz : Nat × Nat), w.heap[k]? = some (.cells cs 31 fz) → k < w.heap.size := fun k _ _ hk => (Array.getElem?_eq_some_iff.1 hk).1
  have HS0 := Lib.hid (fun o => ali_start (o := o) (ht.inside lt))
  have HRow := Lib.hid (fun (i : Nat) (hi : i < lc.length) => (by obtain ⟨g, cap, e, hg, hc, hr⟩ := hP.row (by rintro rfl; cases hi); exact ⟨g, cap, e, hg, hc, hr i hi⟩ : ∃ g cap, Value.slice va lc.length vc = .slice (some ⟨g, 0, none⟩) lc.length cap ∧ g < w.heap.size ∧ lc.length ≤ cap ∧ ∃ a c, w.cell? ⟨g, i * 4, none⟩ = some (.string lc[i].1) ∧ w.cell? ⟨g, i * 4 + 1, none⟩ = some (.int .i64 lc[i].2.kind) ∧ w.cell? ⟨g, i * 4 + 2, none⟩ = some (.string lc[i].2.name) ∧ w.cell? ⟨g, i * 4 + 3, none⟩ = some (.slice a lc[i].2.kids.length c) ∧ TysAt w (.slice a lc[i].2.kids.length c) lc[i].2.kids))
  have HLt := Lib.hid lt
  clear ht hP lt
  go_enter Tryz.func36, Tryz.ntmps36
  go_wp2
  go_loopw [5, 6] (fun vo vi wr => ∃ (i n e : Nat) (b : Option Addr), i ≤ lc.length ∧ vi = .int .i64 i ∧ vo = .slice b n e ∧ Hid (ALI w (t :: (lc.take i).map (·.2)) (.slice b n e) n wr)) (fun _ vi _ => lc.length - (intOf vi).toNat)
  case atStart => exact ⟨0, 1, 1, _, Nat.zero_le _, rfl, rfl, Lib.hid (HS0.out _)⟩
  case round =>
    obtain ⟨i, n, e, b, hi', rfl, rfl, hF⟩ := hrel
    by_cases hlt : i < lc.length
    · obtain ⟨⟨xs, ⟨hx1, rfl⟩, hrow, hbs⟩, hBl⟩ := hF.out
      obtain ⟨g, cap, he, hg, hcap, a, c, x0, x1, x2, x3, xk⟩ := HRow.out i hlt
      cases he
      have y1 := (hBl.cell (p := ⟨g, i * 4 + 1, none⟩) hg).trans x1
      have y2 := (hBl.cell (p := ⟨g, i * 4 + 2, none⟩) hg).trans x2
      have y3 := (hBl.cell (p := ⟨g, i * 4 + 3, none⟩) hg).trans x3
      have y0 := (hBl.cell (p := ⟨g, i * 4, none⟩) hg).trans x0
      have hxb : xs.length ≤ 1000001 := by have := congrArg List.length hx1; simp at this; omega
      have HTk := Lib.hid (show t :: (lc.take (i + 1)).map (·.2) = (t :: (lc.take i).map (·.2)) ++ [lc[i].2] by rw [List.take_succ_eq_append_getElem hlt, List.map_append]; rfl)
      have HX1 := Lib.hid hx1; have HIn := Lib.hid (xk.inside HLt.out)
      have HR := Lib.hid hrow; have HBs := Lib.hid hbs; have HBl := Lib.hid hBl
      have hz := hBl.size
      have hgz : g < wr.heap.size := by omega
      clear x0 x1 x2 x3 xk hx1 hrow hbs hBl hF HRow
      generalize lc[i] = u at *
      have hlt1 : ((i : Int) < (lc.length : Int)) := by omega
      go_wp2_with (at_builtin; refine wpList_append_lies _ rfl _ _ 29 rfl w.heap.size 31 i0 (.agg #[.int .i64 0, .string ⟨#[]⟩, .slice none 0 0]) 3 48 Tryz.underlying29 hi hz0 hz1 hz2 rfl (by decide) _ _ _ rfl (HR.out.alloc _) ⟨wr.heap.size, 0, none⟩ 1 1 [.int .i64 u.2.kind, .string u.2.name, .slice a u.2.kids.length c] rfl rfl (cell_new3 _ _ _ _ _) (by simp [Value.oneCell']) (by decide) ?c3 ?c4 ?c5 _ rfl ?_)
      case c3 => unfold maxLen; omega
      case c4 => omega
      case c5 => first | omega | (simp; omega)
      intro g3 cap3 W3 hown3 hgrow hat3 hlt3
      have HO3 := Lib.hid hown3
      have HB3 := Lib.hid ((HBl.out.alloc hz _).grown hgrow (by simp; omega) (fun j hj => (HR.out.lt j hj).1))
      clear hown3 hgrow hat3
      go_wp2
      go_roundw
      case rel =>
        refine ⟨i + 1, xs.length + 1, cap3, some ⟨g3, 0, none⟩, by omega, by go_num, rfl, Lib.hid ⟨⟨xs ++ [(u.2, a, c)], ⟨?_, by simp⟩, ?_, ?_⟩, HB3.out⟩⟩
        · rw [HTk.out, List.map_append, HX1.out]; rfl
        · rw [cellsOf_snoc, List.length_append]; exact HO3.out
        · intro y hy
          rcases List.mem_append.1 hy with hy | hy
          · exact HBs.out y hy
          · rw [List.mem_singleton.1 hy]; exact HIn.out
      case measure => simp [intOf]; omega
    · obtain rfl : i = lc.length := by omega
      rw [List.take_length] at hF
      have HF := Lib.hid hF.out
      clear hF HRow HLt HS0
      go_wp2
      go_ret
      obtain ⟨⟨xs, ⟨hx1, rfl⟩, hrow, hbs⟩, hBl⟩ := HF.out
      have hxl : xs.length = lc.length + 1 := by have := congrArg List.length hx1; simpa using this
      have hin : TyIn (fun k => k < w.heap.size ∨ w.heap.size ≤ k) wr (.con ⟨#[]⟩ (t :: lc.map (·.2))) (.slice b xs.length e) := in_of_row (by rw [hx1]; rfl) hrow (fun g hg => .inr (hrow.lt g hg).1) (fun x hx => ((hbs x hx).keep fun k _ _ hk hh => (hBl.block k hk).trans hh).mono fun k hk => .inl hk)
      have ht := hin.tys
      rw [hxl] at ht ⊢
      exact ⟨⟨b, e, rfl, ht⟩, hBl⟩
end Go.Proofs.YtjnlchhikdfifaaGreatDoor
/- scheme.variables of a type and of a context. -/
namespace Go.Proofs.YtjnlchhikdfifaaGreatDoor
open Go.RowKit Go.Sort Go.Lib
attribute [local go_sem] Oper.semAt_some

def zerosT (n : Nat) : Array Value := madeCells (Value.agg #[.int .i64 0, .string ⟨#[]⟩, .slice none 0 0]).cells (n * 3)
theorem make_types (n : Nat) (hn : n ≤ 1000001) (W : World) :
    (Instr.makeSlice 29 (.int .i64 0) (.int .i64 (n : Int))).run Tryz.prog W = .ok (.slice (some ⟨W.heap.size, 0, none⟩) 0 n) (W.alloc (.cells (zerosT n) 31)) := by
  obtain ⟨i0, hi0, hz0, hz1, hz2⟩ := info_parts Tryz.infoTyS
  have hr := run_make (P := Tryz.prog) W 29 31 i0 _ Tryz.underlying29 hi0 hz0 .i64 .i64 0 n (Int.le_refl _) (by omega) (by rw [hz2]; omega) (by omega)
  simp only [Int.toNat_natCast, hz1] at hr
  exact hr
set_option maxRecDepth 100000 in
set_option maxHeartbeats 4000000 in
theorem varsG_any (t : T) (lc : List Pr) (hnm : ∀ u ∈ t :: lc.map (·.2), Nm u) (hs : tsizes (t :: lc.map (·.2)) ≤ 90000000) (hn : lc.length ≤ 1000000) (ta va : Option Addr) (tc vc : Nat) (w : World) (ht : TysAt w (.slice ta t.kids.length tc) t.kids) (hP : PrsAt w (.slice va lc.length vc) lc) :
    Calls Tryz.prog 38 #[.slice va lc.length vc, .agg #[.int .i64 t.kind, .string t.name, .slice ta t.kids.length tc]] w fun e w' =>
      (∃ v, e = .returned v ∧ TextsAt w' v (fvs [] [] (t :: lc.map (·.2)))) ∧ Below w.heap.size w w' := by
  obtain ⟨i0, hi, hz0, hz1, hz2⟩ := info_parts Tryz.infoTyS
  have lt : ∀ (k : Nat) (cs : Array Value) (fz : Nat × Nat), w.heap[k]? = some (.cells cs 31 fz) → k < w.heap.size := fun k _ _ hk => (Array.getElem?_eq_some_iff.1 hk).1
  have hmk : ∀ W : World, (Instr.makeSlice 29 (.int .i64 0) (.int .i64 (1 + (lc.length : Int)))).run Tryz.prog W = .ok (.slice (some ⟨W.heap.size, 0, none⟩) 0 (1 + lc.length)) (W.alloc (.cells (zerosT (1 + lc.length)) 31)) := fun W => by
    rw [show ((1 : Int) + (lc.length : Int)) = ((1 + lc.length : Nat) : Int) by omega]
    exact make_types (1 + lc.length) (by omega) W
  have HIn0 := Lib.hid (ht.inside lt)
  have HRow := Lib.hid (fun (i : Nat) (hi : i < lc.length) => (by obtain ⟨g, cap, e, hg, hc, hr⟩ := hP.row (by rintro rfl; cases hi); exact ⟨g, cap, e, hg, hc, hr i hi⟩ : ∃ g cap, Value.slice va lc.length vc = .slice (some ⟨g, 0, none⟩) lc.length cap ∧ g < w.heap.size ∧ lc.length ≤ cap ∧ ∃ a c, w.cell? ⟨g, i * 4, none⟩ = some (.string lc[i].1) ∧ w.cell? ⟨g, i * 4 + 1, none⟩ = some (.int .i64 lc[i].2.kind) ∧ w.cell? ⟨g, i * 4 + 2, none⟩ = some (.string lc[i].2.name) ∧ w.cell? ⟨g, i * 4 + 3, none⟩ = some (.slice a lc[i].2.kids.length c) ∧ TysAt w (.slice a lc[i].2.kids.length c) lc[i].2.kids))
  have HLt := Lib.hid lt
  have HV := Lib.hid (fun (a : Option Addr) (c : Nat) (W : World) (h : TysAt W (.slice a (t :: lc.map (·.2)).length c) (t :: lc.map (·.2))) => vars_any (t :: lc.map (·.2)) hnm (by omega) a c W h)
  clear ht hP lt hnm hs
  go_enter Tryz.func38, Tryz.ntmps38
  go_wp2_with (at_builtin; refine wpList_append_lies _ rfl _ _ 29 rfl w.heap.size 31 i0 (.agg #[.int .i64 0, .string ⟨#[]⟩, .slice none 0 0]) 3 48 Tryz.underlying29 hi hz0 hz1 hz2 rfl (by decide) _ 0 [] rfl ?own ⟨w.heap.size + 1 + 1, 0, none⟩ 1 1 [.int .i64 t.kind, .string t.name, .slice ta t.kids.length tc] rfl rfl ?news (by simp [Value.oneCell']) (by decide) ?c3 ?c4 ?c5 _ rfl ?_)
  case own =>
    have := World.ownsRow_made (base := w.heap.size) (e := 31) (size := 3) (w.alloc (.cells #[.int .i64 t.kind, .string t.name, .slice ta t.kids.length tc] 31)) (zerosT (1 + lc.length)) (1 + lc.length) (by simp) (by unfold maxLen; omega) (by unfold zerosT; rw [size_madeCells])
    have h2 := World.ownsRow.alloc this (.cells #[.int .i64 t.kind, .string t.name, .slice ta t.kids.length tc] 31)
    have e : (w.alloc (.cells #[.int .i64 t.kind, .string t.name, .slice ta t.kids.length tc] 31)).heap.size = w.heap.size + 1 := by simp
    rw [e] at h2
    exact h2
  case c3 => unfold maxLen; omega
  case c5 => first | omega | (simp; omega)
  intro g4 cap4 W4 hown4 hgr4 _ _
  have hb4 : Below w.heap.size w W4 := ((((Below.refl w.heap.size w).alloc (Nat.le_refl _) _).alloc (by simp) _).alloc (by simp; omega) _).grown hgr4 (by simp; omega) (fun k e => by simp [Value.ownBlock] at e; omega)
  have HI := Lib.hid (show ALI w [t] (.slice (some ⟨g4, 0, none⟩) (0 + 1) cap4) (0 + 1) W4 from ⟨⟨[(t, ta, tc)], ⟨rfl, rfl⟩, by simpa [cellsOf] using hown4, fun x hx => by rw [List.mem_singleton.1 hx]; exact HIn0.out⟩, hb4⟩)
  clear hown4 hgr4 hb4 HIn0 hmk
  go_wp2
  go_loopw [5, 18] (fun vo vi wr => ∃ (i n e : Nat) (b : Option Addr), i ≤ lc.length ∧ vi = .int .i64 i ∧ vo = .slice b n e ∧ Hid (ALI w (t :: (lc.take i).map (·.2)) (.slice b n e) n wr)) (fun _ vi _ => lc.length - (intOf vi).toNat)
  case atStart => exact ⟨0, 1, _, _, Nat.zero_le _, rfl, rfl, HI⟩
  case round =>
    obtain ⟨i, n, e, b, hi', rfl, rfl, hF⟩ := hrel
    clear HI
    by_cases hlt : i < lc.length
    · obtain ⟨⟨xs, ⟨hx1, rfl⟩, hrow, hbs⟩, hBl⟩ := hF.out
      obtain ⟨g, cap, he, hg, hcap, a, c, x0, x1, x2, x3, xk⟩ := HRow.out i hlt
      cases he
      have y1 := (hBl.cell (p := ⟨g, i * 4 + 1, none⟩) hg).trans x1
      have y2 := (hBl.cell (p := ⟨g, i * 4 + 2, none⟩) hg).trans x2
      have y3 := (hBl.cell (p := ⟨g, i * 4 + 3, none⟩) hg).trans x3
      have y0 := (hBl.cell (p := ⟨g, i * 4, none⟩) hg).trans x0
      have hxb : xs.length ≤ 1000001 := by have := congrArg List.length hx1; simp at this; omega
      have HTk := Lib.hid (show t :: (lc.take (i + 1)).map (·.2) = (t :: (lc.take i).map (·.2)) ++ [lc[i].2] by rw [List.take_succ_eq_append_getElem hlt, List.map_append]; rfl)
      have HX1 := Lib.hid hx1; have HIn := Lib.hid (xk.inside HLt.out)
      have HR := Lib.hid hrow; have HBs := Lib.hid hbs; have HBl := Lib.hid hBl
      have hz := hBl.size
      have hgz : g < wr.heap.size := by omega
      clear x0 x1 x2 x3 xk hx1 hrow hbs hBl hF HRow HV
      generalize lc[i] = u at *
      have hlt1 : ((i : Int) < (lc.length : Int)) := by omega
      go_wp2_with (at_builtin; refine wpList_append_lies _ rfl _ _ 29 rfl w.heap.size 31 i0 (.agg #[.int .i64 0, .string ⟨#[]⟩, .slice none 0 0]) 3 48 Tryz.underlying29 hi hz0 hz1 hz2 rfl (by decide) _ _ _ rfl ((HR.out.alloc _).alloc _) ⟨wr.heap.size + 1, 0, none⟩ 1 1 [.int .i64 u.2.kind, .string u.2.name, .slice a u.2.kids.length c] rfl rfl ?news2 (by simp [Value.oneCell']) (by decide) ?d3 ?d4 ?d5 _ rfl ?_)
      case d3 => unfold maxLen; omega
      case d4 => omega
      case d5 => first | omega | (simp; omega)
      intro g3 cap3 W3 hown3 hgrow hat3 hlt3
      have HO3 := Lib.hid hown3
      have HB3 := Lib.hid (((HBl.out.alloc hz _).alloc (by simp; omega) _).grown hgrow (by simp; omega) (fun j hj => (HR.out.lt j hj).1))
      clear hown3 hgrow hat3
      go_wp2
      go_roundw
      case rel =>
        refine ⟨i + 1, xs.length + 1, cap3, some ⟨g3, 0, none⟩, by omega, by go_num, rfl, Lib.hid ⟨⟨xs ++ [(u.2, a, c)], ⟨?_, by simp⟩, ?_, ?_⟩, HB3.out⟩⟩
        · rw [HTk.out, List.map_append, HX1.out]; rfl
        · rw [cellsOf_snoc, List.length_append]; exact HO3.out
        · intro y hy
          rcases List.mem_append.1 hy with hy | hy
          · exact HBs.out y hy
          · rw [List.mem_singleton.1 hy]; exact HIn.out
      case measure => simp [intOf]; omega
    · obtain rfl : i = lc.length := by omega
      rw [List.take_length] at hF
      obtain ⟨⟨xs, ⟨hx1, rfl⟩, hrow, hbs⟩, hBl⟩ := hF.out
      obtain ⟨LL, hLL⟩ : ∃ L, t :: lc.map (·.2) = L := ⟨_, rfl⟩
      have hxl : xs.length = (t :: lc.map (·.2)).length := by rw [← hx1]; simp
      have hin : TyIn (fun k => k < w.heap.size ∨ w.heap.size ≤ k) wr (.con ⟨#[]⟩ (t :: lc.map (·.2))) (.slice b xs.length e) := in_of_row (by rw [hx1]; rfl) hrow (fun g hg => .inr (hrow.lt g hg).1) (fun x hx => ((hbs x hx).keep fun k _ _ hk hh => (hBl.block k hk).trans hh).mono fun k hk => .inl hk)
      have ht := hin.tys
      rw [hxl] at ht
      have HC := Lib.hid (HV.out b e wr ht)
      have HB := Lib.hid hBl
      rw [← hxl] at HC
      clear hx1 hrow hbs hBl hin ht hF HRow HLt HV hxl
      rw [hLL] at HC
      have HLL := Lib.hid hLL
      clear hLL
      go_wp2_with (go_at_call 64; fail)
      refine HC.out.mono ?_
      rintro e' w5 ⟨⟨v, rfl, hv⟩, _, hb5⟩
      have HE := Lib.hid (And.intro hv (HB.out.trans (hb5.mono HB.out.size)))
      clear hv hb5 HC HB
      go_wp2
      go_ret
      exact ⟨⟨v, rfl, by rw [HLL.out]; exact HE.out.1⟩, HE.out.2⟩
end Go.Proofs.YtjnlchhikdfifaaGreatDoor
/- scheme.newNames: which names they are. -/
namespace Go.Proofs.YtjnlchhikdfifaaGreatDoor
open Go.RowKit Go.Maps
attribute [local go_sem] Oper.semAt_some

def NewX (n : Nat) (taken names : List ByteArray) : Prop := NewN n taken names ∧ ∃ i, i ≤ n + taken.length ∧ names = newsTo taken i
theorem newsTo_mono (taken : List ByteArray) : ∀ (k i : Nat), ∃ r, newsTo taken (i + k) = newsTo taken i ++ r
  | 0, i => ⟨[], by simp⟩
  | k + 1, i => by
    obtain ⟨r, e⟩ := newsTo_mono taken k i
    rw [← Nat.add_assoc, newsTo_succ, e]
    split
    · exact ⟨r, rfl⟩
    · exact ⟨r ++ [nameAt (i + k)], by rw [List.append_assoc]⟩
/-- So many names, and none that is taken: there is one row of them alone. -/
theorem newX_one {n : Nat} {tk tk' l m : List ByteArray} (hs : ∀ x, x ∈ tk ↔ x ∈ tk') (h : NewX n tk l) (k : NewX n tk' m) : l = m := by
  have he : ∀ j, newsTo tk j = newsTo tk' j := fun j => by
    unfold newsTo
    refine List.filter_congr fun x _ => ?_
    rw [Bool.eq_iff_iff, Bool.not_eq_true', Bool.not_eq_true', Bool.eq_false_iff, Bool.eq_false_iff, ne_eq, ne_eq, inB_iff, inB_iff, hs x]
  obtain ⟨⟨h1, _⟩, i, _, rfl⟩ := h
  obtain ⟨⟨k1, _⟩, j, _, rfl⟩ := k
  rw [← he] at k1 ⊢
  rcases Nat.le_total i j with hij | hij
  · obtain ⟨r, e⟩ := newsTo_mono tk (j - i) i
    rw [show i + (j - i) = j by omega] at e
    have : r.length = 0 := by have := congrArg List.length e; rw [List.length_append] at this; omega
    rw [e, List.length_eq_zero_iff.1 this, List.append_nil]
  · obtain ⟨r, e⟩ := newsTo_mono tk (i - j) j
    rw [show j + (i - j) = i by omega] at e
    have : r.length = 0 := by have := congrArg List.length e; rw [List.length_append] at this; omega
    rw [e, List.length_eq_zero_iff.1 this, List.append_nil]
set_option maxRecDepth 100000 in
set_option maxHeartbeats 4000000 in
theorem newNamesX_any (n : Nat) (taken : List ByteArray) (hn : n + taken.length ≤ 7) (hs : ∀ x ∈ taken, x.size ≤ 1000000) (a : Option Addr) (c : Nat) (w : World) (h : TextsAt w (.slice a taken.length c) taken) :
    Calls Tryz.prog 39 #[.int .i64 (n : Int), .slice a taken.length c] w fun e w' => (∃ v names, e = .returned v ∧ TextsAt w' v names ∧ NewX n taken names) ∧ Below w.heap.size w w' := by
  obtain ⟨i0, hi0, hz0, hz1, hz2⟩ := info_parts Tryz.infoStrS
  have hmk : ∀ W : World, (Instr.makeSlice 23 (.int .i64 0) (.int .i64 (n : Int))).run Tryz.prog W = .ok (.slice (some ⟨W.heap.size, 0, none⟩) 0 n) (W.alloc (.cells (madeCells #[.string ⟨#[]⟩] n) 9)) := fun W => by
    have hr := run_make (P := Tryz.prog) W 23 9 i0 _ Tryz.underlying23 hi0 hz0 .i64 .i64 0 n (Int.le_refl _) (by omega) (by rw [hz2]; omega) (by omega)
    simp only [Int.toNat_natCast, hz1, Nat.mul_one] at hr
    exact hr
  have HC := Lib.hid (fun (W : World) (hb : Below w.heap.size w W) => setOf_any taken (by omega) hs a c W (h.below hb))
  have HB0 := Lib.hid (Below.refl w.heap.size w)
  clear h hs
  go_enter Tryz.func39, Tryz.ntmps39
  go_wp2
  go_region_with (go_at_call 63; refine (HC.out _ (by first | exact (Below.refl _ w).drew | exact ((Below.refl _ w).drew).alloc (Nat.le_refl _) _)).mono ?_; rintro e w1 ⟨⟨M, rfl, hM, hMb⟩, hb1⟩; have HM := Lib.hid hM; have HB1 := Lib.hid hb1; clear hM hb1 hMb)
  all_goals
    have H0 := Lib.hid (show NewI w M taken.length taken 0 _ _ from by first | exact newI_a (n := n) (by omega) HM.out HB1.out | exact newI_b (n := n) (by omega) HM.out HB1.out)
    clear HM HB1
    go_wp2
    go_loopw [5, 7] (fun vv vi wr => ∃ i : Nat, vi = .int .i64 i ∧ Hid (i ≤ n + taken.length ∧ (newsTo taken i).length ≤ n) ∧ Hid (NewI w M taken.length taken i vv wr)) (fun _ vi _ => n + taken.length + 1 - (intOf vi).toNat)
    case atStart => exact ⟨0, rfl, Lib.hid ⟨by omega, Nat.zero_le _⟩, H0⟩
    case round =>
      obtain ⟨i, rfl, hi, hF⟩ := hrel
      clear H0
      obtain ⟨vo, hM, hb⟩ := hF.out
      obtain ⟨xa, xc, rfl⟩ := vo.shape
      have hcnt := newsTo_len taken i (by have := hi.out.1; omega)
      have hi1 := hi.out.1; have hi2 := hi.out.2
      have hsc := newsTo_succ taken i
      by_cases hlt : (newsTo taken i).length < n
      · have hltI : ((newsTo taken i).length : Int) < (n : Int) := by omega
        have hi7 : i < 7 := by omega
        have hlk := hM.look (nameAt i) (by show (1 : Nat) ≤ maxLen; unfold maxLen; omega)
        have hwz := hb.size
        have HVO := Lib.hid vo; have HM := Lib.hid hM; have HB := Lib.hid hb
        have HSC := Lib.hid (fun v (wr' : World) (h : OwnT w.heap.size v (if inB taken (nameAt i) = true then newsTo taken i else newsTo taken i ++ [nameAt i]) wr') (h2 : SetV M taken.length (inB taken) wr') (h3 : Below w.heap.size w wr') => (show NewI w M taken.length taken (i + 1) v wr' from ⟨by rw [hsc]; exact h, h2, h3⟩))
        have HLen := Lib.hid (newsTo_next (by omega) hlt hsc)
        have hmz : i < n + taken.length := by omega
        clear vo hM hb hF hcnt hi hi1 hi2 hsc
        have hpl : (newsTo taken i).length ≤ 7 := by omega
        generalize newsTo taken i = p at *
        obtain ⟨nm, hnm⟩ : ∃ nm, nameAt i = nm := ⟨_, rfl⟩
        have HN := Lib.hid (fun W => name_low i (by omega) W)
        rw [hnm] at HN hlk HSC
        clear hnm
        cases hin : inB taken nm with
        | true =>
          rw [hin] at hlk HSC
          simp only [if_true] at HSC
          go_wp2_with (go_at_call 21; refine (HN.out _).mono ?_; rintro e w' ⟨rfl, rfl⟩)
          have HE := Lib.hid (HSC.out _ _ (HVO.out.below ((Below.refl _ wr).alloc (Nat.le_refl _) (.cells #[] 95))) (HM.out.below ((Below.refl _ wr).alloc (Nat.le_refl _) (.cells #[] 95))) (HB.out.alloc HB.out.size _))
          go_roundw
          case rel => exact ⟨i + 1, by go_num, HLen, HE⟩
          case measure => simp [intOf]; omega
        | false =>
          rw [hin] at hlk HSC
          simp only [Bool.false_eq_true, if_false] at HSC
          go_wp2_with (first
            | (go_at_call 21; refine (HN.out _).mono ?_; rintro e w' ⟨rfl, rfl⟩)
            | (at_builtin; refine wpList_append_own_at _ rfl _ _ 23 rfl w.heap.size 9 i0 (.string ⟨#[]⟩) 1 16 Tryz.underlying23 hi0 hz0 hz1 hz2 rfl (by decide) _ _ _ rfl ((World.ownsRow.alloc HVO.out _).alloc _) ⟨wr.heap.size + 1, 0, none⟩ 1 1 [.string nm] rfl rfl (by have := cell_one_new (wr.alloc (.cells #[] 95)) (.string nm) 9; simpa using this) (by simp [Value.oneCell']) (by unfold maxLen; omega) (by omega) (by simp; omega) ?_; intro v4 W4 hown4 hgr4 _ hat4; obtain ⟨k1, k2, k3, k4, k5⟩ := grown_apart2 HVO.out (OwnT.nil w.heap.size wr) (apart_symm (.inl rfl)) HM.out HB.out (Nat.le_refl _) hown4 hgr4 hat4; have HE := Lib.hid (HSC.out v4 W4 k1 k4 k5); clear hown4 hgr4 hat4 k1 k2 k3 k4 k5))
          go_roundw
          case rel => exact ⟨i + 1, by go_num, HLen, HE⟩
          case measure => simp [intOf]; omega
      · have hltI : ¬ ((newsTo taken i).length : Int) < (n : Int) := by omega
        have hlen : (newsTo taken i).length = n := by omega
        have HE := Lib.hid (show TextsAt wr (.slice xa (newsTo taken i).length xc) (newsTo taken i) ∧ NewX n taken (newsTo taken i) ∧ Below w.heap.size w wr from ⟨vo.texts, ⟨⟨hlen, newsTo_nodup taken i (by omega), fun x hx => ⟨newsTo_free hx, newsTo_size hx⟩⟩, i, hi1, rfl⟩, hb⟩)
        clear vo hM hb hF hcnt hi hi1 hi2 hsc hlen
        generalize newsTo taken i = p at *
        go_wp2
        go_ret
        exact ⟨⟨_, rfl, p, HE.out.1, HE.out.2.1⟩, HE.out.2.2⟩
end Go.Proofs.YtjnlchhikdfifaaGreatDoor
/- scheme.rename with a context: its last statement, a region of 11 operations that draws its order, by an invariant. (Made by a program.) -/
namespace Go.Proofs.YtjnlchhikdfifaaGreatDoor
open Go.RowKit Go.Sort Go.Lib
attribute [local go_sem] Oper.semAt_some

noncomputable def frnOps : Array Oper := regionIn 8 (Tryz.f33.body.getD .skip)
def frnFr (b : Nat → Value) (d : List Deferred) (x : Nat → Value) : Act := { tmps := #[b 0, b 1, b 2, b 3, b 4, b 5, b 6, b 7, b 8, b 9, b 10, b 11, b 12, b 13, b 14, b 15, b 16, b 17, b 18, b 19, b 20, b 21, b 22, b 23, b 24, b 25, b 26, b 27, b 28, b 29, b 30, b 31, b 32, b 33, x 0, x 1, x 2, x 3, x 4, x 5, x 6, x 7, x 8, x 9], defers := d }

def frnVals (b3 : Nat) (xa ta sa : Option Addr) (xc tc sc : Nat) (lc : List Pr) (t : T) (l : List PR) (ga : Option Addr) (gn gc : Nat) (i : Nat) (v : Value) (V : World) : Prop :=
  match i with
  | 0 => v = .slice ga gn gc
  | 1 => v = .agg #[.slice sa l.length sc]
  | 2 => v = .pointer (some ⟨b3, 1, none⟩)
  | 3 => v = .slice xa lc.length xc
  | 4 => ∃ zp zd, v = .slice zp lc.length zd ∧ PrsAt V (.slice zp lc.length zd) (appP l lc)
  | 5 => v = .agg #[.slice sa l.length sc]
  | 6 => v = .pointer (some ⟨b3, 2, none⟩)
  | 7 => v = .agg #[.int .i64 (t).kind, .string (t).name, .slice ta (t).kids.length tc]
  | 8 => ∃ za zc, v = .agg #[.int .i64 (app l t).kind, .string (app l t).name, .slice za (app l t).kids.length zc] ∧ TysAt V (.slice za (app l t).kids.length zc) (app l t).kids
  | 9 => ∃ zp zd za zc, v = .agg #[.slice ga gn gc, .slice zp lc.length zd, .int .i64 (app l t).kind, .string (app l t).name, .slice za (app l t).kids.length zc] ∧ PrsAt V (.slice zp lc.length zd) (appP l lc) ∧ TysAt V (.slice za (app l t).kids.length zc) (app l t).kids
  | _ => True

theorem frnVals_keep {b3 : Nat} {xa ta sa : Option Addr} {xc tc sc : Nat} {lc : List Pr} {t : T} {l : List PR} {ga : Option Addr} {gn gc : Nat} (i : Nat) (v : Value) (V Y : World) (h : frnVals b3 xa ta sa xc tc sc lc t l ga gn gc i v V) (hb : Below V.heap.size V Y) : frnVals b3 xa ta sa xc tc sc lc t l ga gn gc i v Y := by
  unfold frnVals at *
  split at h <;> first
    | exact h
    | (obtain ⟨zp, zd, e, h⟩ := h; exact ⟨zp, zd, e, h.keep (KeepT.of_below hb) (KeepP.of_below hb)⟩)
    | (obtain ⟨za, zc, e, h⟩ := h; exact ⟨za, zc, e, h.keep (KeepT.of_below hb)⟩)
    | (obtain ⟨zp, zd, za, zc, e, h⟩ := h; exact ⟨zp, zd, za, zc, e, ⟨h.1.keep (KeepT.of_below hb) (KeepP.of_below hb), h.2.keep (KeepT.of_below hb)⟩⟩)

theorem frn_size : frnOps.size = 11 := by kernel_rfl
theorem frn_cov : covered frnOps 10 = true := by kernel_rfl
set_option linter.unusedSimpArgs false in
set_option maxRecDepth 100000 in
set_option maxHeartbeats 8000000 in
theorem frn_region {w : World} {b3 b6 b10 : Nat} {xv : Value} {xa ta sa ga : Option Addr} {xc tc sc gn gc : Nat} {lc : List Pr} {t : T} {l : List PR} {b : Nat → Value} {d : List Deferred}
    (h2 : b 2 = .slice ga gn gc) (h3 : b 3 = .pointer (some ⟨b3, 0, none⟩)) (h6 : b 6 = .pointer (some ⟨b6, 0, none⟩)) (h10 : b 10 = .pointer (some ⟨b10, 0, none⟩))
    (HC4 : ∀ V, SRc w b3 b6 b10 xv xa xc lc t ta tc sa sc l V → Calls Tryz.prog 40 #[.agg #[.slice sa l.length sc], .slice xa lc.length xc] V fun e Y => (∃ zp zd, e = .returned (.slice zp lc.length zd) ∧ PrsAt Y (.slice zp lc.length zd) (appP l lc)) ∧ Below V.heap.size V Y)
    (HC8 : ∀ V, SRc w b3 b6 b10 xv xa xc lc t ta tc sa sc l V → Calls Tryz.prog 41 #[.agg #[.slice sa l.length sc], .agg #[.int .i64 (t).kind, .string (t).name, .slice ta (t).kids.length tc]] V fun e Y => (∃ za zc, e = .returned (.agg #[.int .i64 (app l t).kind, .string (app l t).name, .slice za (app l t).kids.length zc]) ∧ TysAt Y (.slice za (app l t).kids.length zc) (app l t).kids) ∧ Below V.heap.size V Y)
    {Q : Exit → Act → World → Prop} {ops : Array Oper} (hops : ops = frnOps) (x0 : Nat → Value) (X : World) (hS : SRc w b3 b6 b10 xv xa xc lc t ta tc sa sc l X.drew)
    (hfin : ∀ (x : Nat → Value) V zp zd za zc, SRc w b3 b6 b10 xv xa xc lc t ta tc sa sc l V → PrsAt V (.slice zp lc.length zd) (appP l lc) → TysAt V (.slice za (app l t).kids.length zc) (app l t).kids → Q .normal (frnFr b d x) (set5 V b6 (.slice ga gn gc) (.slice zp lc.length zd) (.int .i64 (app l t).kind) (.string (app l t).name) (.slice za (app l t).kids.length zc))) : (Code.region 8 ops true).wp Tryz.prog Q (frnFr b d x0) X := by
  have HC := Lib.hid (And.intro HC4 HC8)
  clear HC4 HC8
  have hszo : ops.size = 10 + 1 := by rw [hops]; exact frn_size
  have hcovo : covered ops 10 = true := by rw [hops]; exact frn_cov
  refine region_last (frnFr b d) (fun V => SRc w b3 b6 b10 xv xa xc lc t ta tc sa sc l V) (fun V Y => Below V.heap.size V Y) (frnVals b3 xa ta sa xc tc sc lc t l ga gn gc) x0 10 (by kernel_rfl) rfl hS hszo hcovo (fun V Y h hb => h.below hb) (fun i v V Y _ h hb => frnVals_keep i v V Y h hb) ?_
  have HFIN := Lib.hid hfin
  clear hfin hS hszo hcovo
  obtain ⟨gl, hgl⟩ : ∃ qq, LastAt Tryz.prog (frnFr b d) (fun V => SRc w b3 b6 b10 xv xa xc lc t ta tc sa sc l V) (frnVals b3 xa ta sa xc tc sc lc t l ga gn gc) ops Q 10 = qq := ⟨_, rfl⟩
  rw [hgl]
  obtain ⟨f, hf⟩ : ∃ qq, StepAt Tryz.prog (frnFr b d) (fun V => SRc w b3 b6 b10 xv xa xc lc t ta tc sa sc l V) (fun V Y => Below V.heap.size V Y) (frnVals b3 xa ta sa xc tc sc lc t l ga gn gc) ops Q = qq := ⟨_, rfl⟩
  rw [hf, hops]
  simp only [frnOps, Tryz.f33, regionIn, Option.getD_some, Nat.reduceBEq, Bool.false_eq_true, if_false, if_true, beq_self_eq_true, Array.append_empty, Array.empty_append, List.append_eq, List.cons_append, List.nil_append, AllBut, Nat.reduceAdd, Nat.zero_add]
  -- 0: slot 34 := Op.move t2
  refine And.intro ?_ ?_
  · clear HFIN hgl
    rw [← hf]; clear hf
    refine ⟨by decide +kernel, fun x v => by kernel_rfl, fun x V hV hdep K hK => ?_⟩
    clear hdep
    refine run_bare (by kernel_rfl) ?_
    unfold frnFr
    go_simp
    refine kfit (hK _ _ (Below.refl _ V) rfl) ?_
    first | (simp only [frnFr, Act.put, List.setIfInBounds_toArray, List.set_cons_zero, List.set_cons_succ, h2, h3, h6, h10]; done) | (simp only [frnFr, Act.put, List.setIfInBounds_toArray, List.set_cons_zero, List.set_cons_succ, h2, h3, h6, h10]; rfl)
  -- 1: slot 35 := Op.load 59 t10
  refine And.intro ?_ ?_
  · clear HFIN hgl
    rw [← hf]; clear hf
    refine ⟨by decide +kernel, fun x v => by kernel_rfl, fun x V hV hdep K hK => ?_⟩
    clear hdep
    refine run_bare (by kernel_rfl) ?_
    unfold frnFr
    obtain ⟨y0, y1, y2, y3, y4⟩ := cells5 hV.1.1.1; have y5 := hV.1.2.2.1.cell
    go_simp
    refine kfit (hK _ _ (Below.refl _ V) rfl) ?_
    first | (simp only [frnFr, Act.put, List.setIfInBounds_toArray, List.set_cons_zero, List.set_cons_succ, h2, h3, h6, h10]; done) | (simp only [frnFr, Act.put, List.setIfInBounds_toArray, List.set_cons_zero, List.set_cons_succ, h2, h3, h6, h10]; rfl)
  -- 2: slot 36 := Op.fieldAddr 42 t3 1
  refine And.intro ?_ ?_
  · clear HFIN hgl
    rw [← hf]; clear hf
    refine ⟨by decide +kernel, fun x v => by kernel_rfl, fun x V hV hdep K hK => ?_⟩
    clear hdep
    refine run_bare (by kernel_rfl) ?_
    unfold frnFr
    go_simp
    refine kfit (hK _ _ (Below.refl _ V) rfl) ?_
    first | (simp only [frnFr, Act.put, List.setIfInBounds_toArray, List.set_cons_zero, List.set_cons_succ, h2, h3, h6, h10]; done) | (simp only [frnFr, Act.put, List.setIfInBounds_toArray, List.set_cons_zero, List.set_cons_succ, h2, h3, h6, h10]; rfl)
  -- 3: slot 37 := Op.load 24 t36
  refine And.intro ?_ ?_
  · clear HFIN hgl
    rw [← hf]; clear hf
    refine ⟨by decide +kernel, fun x v => by kernel_rfl, fun x V hV hdep K hK => ?_⟩
    have e2 : x 2 = .pointer (some ⟨b3, 1, none⟩) := depOf hdep 2 (by decide +kernel)
    clear hdep
    refine run_bare (by kernel_rfl) ?_
    unfold frnFr
    obtain ⟨y0, y1, y2, y3, y4⟩ := cells5 hV.1.1.1; have y5 := hV.1.2.2.1.cell
    go_simp
    refine kfit (hK _ _ (Below.refl _ V) rfl) ?_
    first | (simp only [frnFr, Act.put, List.setIfInBounds_toArray, List.set_cons_zero, List.set_cons_succ, h2, h3, h6, h10, e2]; done) | (simp only [frnFr, Act.put, List.setIfInBounds_toArray, List.set_cons_zero, List.set_cons_succ, h2, h3, h6, h10, e2]; rfl)
  -- 4: slot 38 := Op.call { value (Operand.func 23), args := #[t35, t37], argT
  refine And.intro ?_ ?_
  · clear HFIN hgl
    rw [← hf]; clear hf
    refine ⟨by decide +kernel, fun x v => by kernel_rfl, fun x V hV hdep K hK => ?_⟩
    have e1 : x 1 = .agg #[.slice sa l.length sc] := depOf hdep 1 (by decide +kernel)
    have e3 : x 3 = .slice xa lc.length xc := depOf hdep 3 (by decide +kernel)
    clear hdep
    refine run_bare (by kernel_rfl) ?_
    unfold frnFr
    obtain ⟨HC4, HC8⟩ := HC.out
    clear HC8
    have H := HC4 V hV
    replace H := Lib.hid H; clear HC4
    go_simp
    go_at_call 40
    refine H.out.mono ?_
    rintro e Y ⟨⟨zp, zd, rfl, hq⟩, hb⟩; refine kfit (hK _ _ hb ⟨zp, zd, rfl, hq⟩) ?_
    first | (simp only [frnFr, Act.put, List.setIfInBounds_toArray, List.set_cons_zero, List.set_cons_succ, h2, h3, h6, h10, e1, e3]; done) | (simp only [frnFr, Act.put, List.setIfInBounds_toArray, List.set_cons_zero, List.set_cons_succ, h2, h3, h6, h10, e1, e3]; rfl)
  -- 5: slot 39 := Op.load 59 t10
  refine And.intro ?_ ?_
  · clear HFIN hgl
    rw [← hf]; clear hf
    refine ⟨by decide +kernel, fun x v => by kernel_rfl, fun x V hV hdep K hK => ?_⟩
    clear hdep
    refine run_bare (by kernel_rfl) ?_
    unfold frnFr
    obtain ⟨y0, y1, y2, y3, y4⟩ := cells5 hV.1.1.1; have y5 := hV.1.2.2.1.cell
    go_simp
    refine kfit (hK _ _ (Below.refl _ V) rfl) ?_
    first | (simp only [frnFr, Act.put, List.setIfInBounds_toArray, List.set_cons_zero, List.set_cons_succ, h2, h3, h6, h10]; done) | (simp only [frnFr, Act.put, List.setIfInBounds_toArray, List.set_cons_zero, List.set_cons_succ, h2, h3, h6, h10]; rfl)
  -- 6: slot 40 := Op.fieldAddr 42 t3 2
  refine And.intro ?_ ?_
  · clear HFIN hgl
    rw [← hf]; clear hf
    refine ⟨by decide +kernel, fun x v => by kernel_rfl, fun x V hV hdep K hK => ?_⟩
    clear hdep
    refine run_bare (by kernel_rfl) ?_
    unfold frnFr
    go_simp
    refine kfit (hK _ _ (Below.refl _ V) rfl) ?_
    first | (simp only [frnFr, Act.put, List.setIfInBounds_toArray, List.set_cons_zero, List.set_cons_succ, h2, h3, h6, h10]; done) | (simp only [frnFr, Act.put, List.setIfInBounds_toArray, List.set_cons_zero, List.set_cons_succ, h2, h3, h6, h10]; rfl)
  -- 7: slot 41 := Op.load 33 t40
  refine And.intro ?_ ?_
  · clear HFIN hgl
    rw [← hf]; clear hf
    refine ⟨by decide +kernel, fun x v => by kernel_rfl, fun x V hV hdep K hK => ?_⟩
    have e6 : x 6 = .pointer (some ⟨b3, 2, none⟩) := depOf hdep 6 (by decide +kernel)
    clear hdep
    refine run_bare (by kernel_rfl) ?_
    unfold frnFr
    obtain ⟨y0, y1, y2, y3, y4⟩ := cells5 hV.1.1.1; have y5 := hV.1.2.2.1.cell
    go_simp
    refine kfit (hK _ _ (Below.refl _ V) rfl) ?_
    first | (simp only [frnFr, Act.put, List.setIfInBounds_toArray, List.set_cons_zero, List.set_cons_succ, h2, h3, h6, h10, e6]; done) | (simp only [frnFr, Act.put, List.setIfInBounds_toArray, List.set_cons_zero, List.set_cons_succ, h2, h3, h6, h10, e6]; rfl)
  -- 8: slot 42 := Op.call { value (Operand.func 40), args := #[t39, t41], argT
  refine And.intro ?_ ?_
  · clear HFIN hgl
    rw [← hf]; clear hf
    refine ⟨by decide +kernel, fun x v => by kernel_rfl, fun x V hV hdep K hK => ?_⟩
    have e5 : x 5 = .agg #[.slice sa l.length sc] := depOf hdep 5 (by decide +kernel)
    have e7 : x 7 = .agg #[.int .i64 (t).kind, .string (t).name, .slice ta (t).kids.length tc] := depOf hdep 7 (by decide +kernel)
    clear hdep
    refine run_bare (by kernel_rfl) ?_
    unfold frnFr
    obtain ⟨HC4, HC8⟩ := HC.out
    clear HC4
    have H := HC8 V hV
    replace H := Lib.hid H; clear HC8
    go_simp
    go_at_call 41
    refine H.out.mono ?_
    rintro e Y ⟨⟨za, zc, rfl, hq⟩, hb⟩; refine kfit (hK _ _ hb ⟨za, zc, rfl, hq⟩) ?_
    first | (simp only [frnFr, Act.put, List.setIfInBounds_toArray, List.set_cons_zero, List.set_cons_succ, h2, h3, h6, h10, e5, e7]; done) | (simp only [frnFr, Act.put, List.setIfInBounds_toArray, List.set_cons_zero, List.set_cons_succ, h2, h3, h6, h10, e5, e7]; rfl)
  -- 9: slot 43 := Op.build 42 #[(0, t34), (1, t38), (2, t42)]
  refine And.intro ?_ ?_
  · clear HFIN hgl
    rw [← hf]; clear hf
    refine ⟨by decide +kernel, fun x v => by kernel_rfl, fun x V hV hdep K hK => ?_⟩
    have e0 : x 0 = .slice ga gn gc := depOf hdep 0 (by decide +kernel)
    obtain ⟨zp4, zd4, e4, d4⟩ : ∃ zp4 zd4, x 4 = .slice zp4 lc.length zd4 ∧ PrsAt V (.slice zp4 lc.length zd4) (appP l lc) := depOf hdep 4 (by decide +kernel)
    obtain ⟨za8, zc8, e8, d8⟩ : ∃ za8 zc8, x 8 = .agg #[.int .i64 (app l t).kind, .string (app l t).name, .slice za8 (app l t).kids.length zc8] ∧ TysAt V (.slice za8 (app l t).kids.length zc8) (app l t).kids := depOf hdep 8 (by decide +kernel)
    clear hdep
    refine run_bare (by kernel_rfl) ?_
    unfold frnFr
    go_simp
    refine kfit (hK _ _ (Below.refl _ V) ⟨zp4, zd4, za8, zc8, rfl, d4, d8⟩) ?_
    first | (simp only [frnFr, Act.put, List.setIfInBounds_toArray, List.set_cons_zero, List.set_cons_succ, h2, h3, h6, h10, e0, e4, e8]; done) | (simp only [frnFr, Act.put, List.setIfInBounds_toArray, List.set_cons_zero, List.set_cons_succ, h2, h3, h6, h10, e0, e4, e8]; rfl)
  -- 10: slot none := Op.store 42 t6 t43
  · clear HC
    rw [← hgl]; clear hgl
    refine ⟨by decide +kernel, fun x V hV hall K hK => ?_⟩
    obtain ⟨zp, zd, za, zc, e9, d4, d9⟩ : ∃ (zp : Option Addr) (zd : Nat) (za : Option Addr) (zc : Nat), x 9 = .agg #[.slice ga gn gc, .slice zp lc.length zd, .int .i64 (app l t).kind, .string (app l t).name, .slice za (app l t).kids.length zc] ∧ PrsAt V (.slice zp lc.length zd) (appP l lc) ∧ TysAt V (.slice za (app l t).kids.length zc) (app l t).kids := hall 9 (by decide)
    clear hall
    refine run_bare (by kernel_rfl) ?_
    unfold frnFr
    obtain ⟨v0, v1, v2, v3, v4⟩ := cells5 hV.1.2.1
    have f0 := Lib.frozen_of_heap hV.1.2.1 0; have f1 := Lib.frozen_of_heap hV.1.2.1 1; have f2 := Lib.frozen_of_heap hV.1.2.1 2; have f3 := Lib.frozen_of_heap hV.1.2.1 3; have f4 := Lib.frozen_of_heap hV.1.2.1 4
    have H := Lib.hid (HFIN.out x V zp zd za zc hV d4 d9)
    clear HFIN hV d4 d9
    go_simp
    refine kfit (hK undef _ H.out) ?_
    first | (simp only [frnFr, Act.put, List.setIfInBounds_toArray, List.set_cons_zero, List.set_cons_succ, h2, h3, h6, h10, e9]; done) | (simp only [frnFr, Act.put, List.setIfInBounds_toArray, List.set_cons_zero, List.set_cons_succ, h2, h3, h6, h10, e9]; rfl)
theorem frn_here {w : World} {b3 b6 b10 : Nat} {xv : Value} {xa ta sa ga : Option Addr} {xc tc sc gn gc : Nat} {lc : List Pr} {t : T} {l : List PR}
    (HC4 : ∀ V, SRc w b3 b6 b10 xv xa xc lc t ta tc sa sc l V → Calls Tryz.prog 40 #[.agg #[.slice sa l.length sc], .slice xa lc.length xc] V fun e Y => (∃ zp zd, e = .returned (.slice zp lc.length zd) ∧ PrsAt Y (.slice zp lc.length zd) (appP l lc)) ∧ Below V.heap.size V Y)
    (HC8 : ∀ V, SRc w b3 b6 b10 xv xa xc lc t ta tc sa sc l V → Calls Tryz.prog 41 #[.agg #[.slice sa l.length sc], .agg #[.int .i64 (t).kind, .string (t).name, .slice ta (t).kids.length tc]] V fun e Y => (∃ za zc, e = .returned (.agg #[.int .i64 (app l t).kind, .string (app l t).name, .slice za (app l t).kids.length zc]) ∧ TysAt Y (.slice za (app l t).kids.length zc) (app l t).kids) ∧ Below V.heap.size V Y)
    {Q : Exit → Act → World → Prop} {ops : Array Oper} {a : Act} (X : World) (hops : ops = frnOps)
    (h2 : a.tmps.getD 2 undef = .slice ga gn gc) (h3 : a.tmps.getD 3 undef = .pointer (some ⟨b3, 0, none⟩)) (h6 : a.tmps.getD 6 undef = .pointer (some ⟨b6, 0, none⟩)) (h10 : a.tmps.getD 10 undef = .pointer (some ⟨b10, 0, none⟩))
    (ha : a = frnFr (fun j => a.tmps.getD j undef) a.defers (fun i => a.tmps.getD (34 + i) undef)) (hS : SRc w b3 b6 b10 xv xa xc lc t ta tc sa sc l X.drew)
    (hfin : ∀ (x : Nat → Value) V zp zd za zc, SRc w b3 b6 b10 xv xa xc lc t ta tc sa sc l V → PrsAt V (.slice zp lc.length zd) (appP l lc) → TysAt V (.slice za (app l t).kids.length zc) (app l t).kids → Q .normal (frnFr (fun j => a.tmps.getD j undef) a.defers x) (set5 V b6 (.slice ga gn gc) (.slice zp lc.length zd) (.int .i64 (app l t).kind) (.string (app l t).name) (.slice za (app l t).kids.length zc))) : (Code.region 8 ops true).wp Tryz.prog Q a X :=
  cast (congrArg (fun z => (Code.region 8 ops true).wp Tryz.prog Q z X) ha.symm) (frn_region (b := fun j => a.tmps.getD j undef) (d := a.defers) h2 h3 h6 h10 HC4 HC8 hops _ X hS hfin)
end Go.Proofs.YtjnlchhikdfifaaGreatDoor
