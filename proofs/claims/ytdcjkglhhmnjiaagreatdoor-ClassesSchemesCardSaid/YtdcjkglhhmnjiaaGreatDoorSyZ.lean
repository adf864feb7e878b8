/- A region that draws, and whose last deeds are stores into blocks that are apart: they may be done in whatever order. -/
import Derived.Test.YtdcjkglhhmnjiaaGreatDoorSyX
namespace Go.Proofs.YtdcjkglhhmnjiaaGreatDoor.Sx
noncomputable section

/-- what hangs on no memory -/
def pureQ (P : Program) (ev : Operand → Value) (op : Op) : Option Value := match op with
  | .fieldAddr t x n => fieldQ P t (ev x) n
  | .indexAddr t x ix => (match ev x with
    | .slice (some a) n c => bif Nat.ble c unk then placeQ P t a n (ev ix) else none
    | _ => none)
  | .nilCheck x => nilV (ev x)
  | .move x => some (ev x)
  | _ => none
/-- what a store leaves in its block -/
def storeObj (P : Program) (s : St) (t : TypeId) (a : Addr) (x : Value) : Option (Nat × Obj) :=
  match s.obj a.block, P.info? t with
  | some (.cells c e f), some i =>
    bif (Nat.beq (cellsL x).length i.size && (cellsL x).all oneV) && (Nat.beq f.2 0 && a.spot.isNone) && (Nat.ble s.ro a.block && Nat.ble (a.off + (cellsL x).length) c.toList.length) then some (a.block, .cells ⟨putL c.toList a.off (cellsL x)⟩ e f) else none
  | _, _ => none
def tgt (P : Program) (s : St) (ev : Operand → Value) (op : Op) : Option (Nat × Obj) := match op with
  | .store t a x => (match ev a with
    | .pointer (some ad) => storeObj P s t ad (ev x)
    | _ => none)
  | _ => none
def isStore : Op → Bool
  | .store .. => true
  | _ => false

/-- what the last stores leave: which, where, what -/
abbrev Sto := Nat × Nat × Obj
def tailRun (P : Program) (s1 : St) : List Oper → Nat → Fr → List Sto → Option (Fr × List Sto)
  | [], _, f, st => some (f, st)
  | o :: os, j, f, st => match pureQ P f.eval o.op with
    | some v => tailRun P s1 os (Nat.succ j) (f.put o.dst v) st
    | none => match tgt P s1 f.eval o.op with
      | some (b, ob) => bif st.any (fun x => Nat.beq x.2.1 b) || o.dst.isSome then none else tailRun P s1 os (Nat.succ j) f ((j, b, ob) :: st)
      | none => none
def putEnd : List Sto → St → St
  | [], s => s
  | x :: l, s => putEnd l (s.put x.2.1 x.2.2)
def putsL (listed : Array Bool) : List Sto → St → St
  | [], s => s
  | x :: l, s => putsL listed l (bif listed.getD x.1 false then s.put x.2.1 x.2.2 else s)

/-- where the last deeds may be done in whatever order: from which operation on -/
def cutAt (P : Program) (ops : Array Oper) : Nat := match (deedsOf P ops).reverse with
  | _ :: _ :: d :: _ => Nat.succ d
  | _ => 0
def headOf (ops : Array Oper) (k : Nat) : Array Oper := ⟨ops.toList.take k⟩
def okCut (ops : Array Oper) (k : Nat) : Bool :=
  let l := ops.toList.zipIdx
  let m := masks ops.toList 0 .nil
  (Nat.blt l.length most && Nat.ble k l.length) &&
  (l.all (fun x => x.1.after.all fun e => !Region.binds .any e || Nat.blt e.on x.2) &&
  (l.all (fun x => bif Nat.blt x.2 k then (match x.1.guard with
      | none => true
      | some (j, _) => Nat.blt j k) else x.1.guard.isNone && (List.range k).all fun h => bit m x.2 h) &&
  (l.all fun x => match x.1.dst with
    | none => true
    | some t => l.all fun y => Nat.beq x.2 y.2 || (!(y.1.dst == some t) && (!((tmpsOf ops y.1).contains t) || bit m y.2 x.2 || bit m x.2 y.2)))))
def drawnX (P : Program) (cl : Cl) (ops : Array Oper) (f : Fr) (s : St) : Option (Fr × St) :=
  bif okDraw P ops then drawn P cl ops f s else
    bif okCut ops (cutAt P ops) then
      match drawn P cl (headOf ops (cutAt P ops)) f s with
      | some (f1, s1) => match tailRun P s1 (ops.toList.drop (cutAt P ops)) (cutAt P ops) f1 [] with
        | some (f2, st) => some (f2, putEnd st s1)
        | none => none
      | none => none
    else none

section
variable {P : Program} {gl n : Nat} {D : List Deferred} {R : Option Nat} {cl : Cl} {ops : Array Oper}

theorem pureQ_ex {ev : Operand → Value} {o : Oper} {v : Value} (h : pureQ P ev o.op = some v) (s : St) : exOp P ev o s = some (.val v, s) ∧ yieldsTo ev o = none ∧ isStore o.op = false := by
  rw [← exK_eq]
  obtain ⟨dst, op, type, pos, after, guard⟩ := o
  dsimp only at h ⊢
  cases op <;> first | (cases h; done) | skip
  · cases h; exact ⟨rfl, rfl, rfl⟩
  · refine ⟨?_, rfl, rfl⟩
    show orVal (nilV _) s none = _
    rw [show nilV (ev _) = some v from h]; rfl
  · refine ⟨?_, rfl, rfl⟩
    show orVal (fieldQ P _ _ _) s _ = _
    rw [show fieldQ P _ (ev _) _ = some v from h]; rfl
  · rename_i t x ix
    refine ⟨?_, rfl, rfl⟩
    unfold pureQ at h
    dsimp only at h
    show (match ev x with
      | .slice (some a) n c => bif Nat.ble c unk then orVal (placeQ P t a n (ev ix)) s (ex P (Instr.indexAt t (.slice (some a) n c) (ev ix)) s) else none
      | _ => none) = _
    split at h
    · rename_i a n c hx
      cases hc : Nat.ble c unk with
      | false => rw [hc] at h; cases h
      | true => rw [hc] at h; simp only [cond_true] at h ⊢; rw [h]; rfl
    · cases h

theorem store_cells : ∀ (l : List Value) (i : Nat) (a : Addr) (s : St) (c : Array Value) (e : TypeId) (f : Nat × Nat), s.obj a.block = some (.cells c e f) → a.spot = none → f.2 = 0 → s.ro ≤ a.block → a.block < most →
    a.off + i + l.length ≤ c.toList.length → (∀ v ∈ l, oneV v = true) →
    ∃ s', ex P (storeCells a l i) s = some ((), s') ∧ (s'.next = s.next ∧ s'.lo = s.lo ∧ s'.ro = s.ro) ∧ (∀ j, j ≠ a.block → s'.obj j = s.obj j) ∧ s'.obj a.block = some (.cells ⟨putL c.toList (a.off + i) l⟩ e f) := by
  intro l
  induction l with
  | nil =>
    intro i a s c e f ho _ _ _ _ _ _
    refine ⟨s, rfl, ⟨rfl, rfl, rfl⟩, fun _ _ => rfl, ?_⟩
    rw [ho]; simp [putL]
  | cons v l ih =>
    intro i a s c e f ho hsp hf hro hb hlen hv
    rw [List.length_cons] at hlen
    have hcs : c.toList.length = c.size := Array.length_toList
    have hg := hv v (by simp)
    have hadd : a.add i = ⟨a.block, a.off + i, none⟩ := by
      unfold Addr.add
      split
      · rename_i h0; subst h0; rw [Nat.add_zero, ← hsp]
      · rfl
    have hk1 : Nat.blt (a.off + i) c.toList.length = true := Nat.ble_eq_true_of_le (by omega)
    have hk2 : Nat.blt a.block s.ro = false := by
      cases h : Nat.blt a.block s.ro with
      | false => rfl
      | true => have := unblt h; omega
    have hk3 : (Nat.ble f.1 (a.off + i) && Nat.blt (a.off + i) f.2) = false := by
      rw [hf, show Nat.blt (a.off + i) 0 = false from rfl, Bool.and_false]
    let o1 : Obj := .cells ⟨c.toList.set (a.off + i) v⟩ e f
    have h1 : ex P (Go.store (a.add i) v) s = some ((), s.put a.block o1) := by
      rw [hadd]
      unfold Go.store
      cases v <;> first | (cases hg; done) | (simp only [ex, ho, hk1, hk2, hk3]; rfl)
    obtain ⟨s', q1, ⟨q2, q3, q4⟩, q5, q6⟩ := ih (i + 1) a (s.put a.block o1) ⟨c.toList.set (a.off + i) v⟩ e f (by rw [obj_put _ _ _ _ hb, if_pos rfl]) hsp hf hro hb (by simp; omega) (fun w hw => hv w (by simp [hw]))
    refine ⟨s', ?_, ⟨q2, q3, q4⟩, fun j hj => by rw [q5 j hj, obj_put _ _ _ _ hb, if_neg hj], ?_⟩
    · rw [storeCells]
      show ex P ((Go.store (a.add i) v).bind _) s = _
      rw [ex_bind, h1]; exact q1
    · rw [q6]
      congr 3
      show putL (c.toList.set (a.off + i) v) (a.off + (i + 1)) l = putL c.toList (a.off + i) (v :: l)
      apply List.ext_getElem?
      intro j
      simp only [putL, List.getElem?_append, List.getElem?_take, List.getElem?_drop, List.length_take, List.length_set, List.length_cons, List.getElem?_set, List.getElem?_cons]
      have m1 : min (a.off + (i + 1)) c.toList.length = a.off + i + 1 := by omega
      have m2 : min (a.off + i) c.toList.length = a.off + i := by omega
      rw [m1, m2]
      by_cases ja : j < a.off + i
      · simp [ja, show j < a.off + i + 1 by omega, show j < a.off + (i + 1) by omega]; omega
      · by_cases jb : j = a.off + i
        · subst jb; simp; omega
        · have hn : ¬ j < a.off + i + 1 := by omega
          simp only [ja, hn, if_false]
          have h3 : ¬ j - (a.off + i) = 0 := by omega
          by_cases d : j - (a.off + i + 1) < l.length
          · rw [if_pos d, if_pos (by omega), if_neg h3]
            first | rfl | (congr 1; omega)
          · rw [if_neg d, if_neg (by omega)]
            rw [if_neg (by omega)]
            first | rfl | (congr 1; omega)

theorem storeObj_ex {s1 s : St} {t : TypeId} {a : Addr} {x : Value} {b : Nat} {ob : Obj} (h : storeObj P s1 t a x = some (b, ob)) (ho : s.obj b = s1.obj b) (hro : s.ro = s1.ro) (hb : b < most) :
    ∃ s', ex P (Instr.storeAt t (.pointer (some a)) x) s = some ((), s') ∧ (s'.next = s.next ∧ s'.lo = s.lo ∧ s'.ro = s.ro) ∧ ∀ j, s'.obj j = (s.put b ob).obj j := by
  unfold storeObj at h
  split at h
  · rename_i c e f i hc hi
    cases hg : ((Nat.beq (cellsL x).length i.size && (cellsL x).all oneV) && (Nat.beq f.2 0 && a.spot.isNone) && (Nat.ble s1.ro a.block && Nat.ble (a.off + (cellsL x).length) c.toList.length)) with
    | false => rw [hg] at h; cases h
    | true =>
      rw [hg] at h; cases h
      simp only [Bool.and_eq_true, Nat.ble_eq, List.all_eq_true] at hg
      obtain ⟨⟨⟨g1, g2⟩, g3, g4⟩, g5, g6⟩ := hg
      have hsp : a.spot = none := by cases hs : a.spot with
        | none => rfl
        | some q => rw [hs] at g4; cases g4
      obtain ⟨s', q1, q2, q3, q4⟩ := store_cells (P := P) (cellsL x) 0 a s c e f (ho.trans hc) hsp (Nat.eq_of_beq_eq_true g3) (by rw [hro]; exact g5) hb (by rw [Nat.add_zero]; exact g6) g2
      refine ⟨s', ?_, q2, fun j => ?_⟩
      · unfold Instr.storeAt Instr.sureAddr storeVar
        show ex P ((sizeOf t).bind _) s = _
        rw [ex_bind, ex_size hi]
        have hsz : x.cells.size = i.size := by rw [← Array.length_toList, ← cellsL_eq]; exact Nat.eq_of_beq_eq_true g1
        dsimp only
        rw [if_neg (by simp [hsz]), ← cellsL_eq]; exact q1
      · rw [obj_put _ _ _ _ hb]
        by_cases e1 : j = a.block
        · subst e1; rw [if_pos rfl, q4, Nat.add_zero]
        · rw [if_neg e1]; exact q3 j e1
  · cases h

theorem tgt_ex {s1 s : St} {ev : Operand → Value} {o : Oper} {b : Nat} {ob : Obj} (h : tgt P s1 ev o.op = some (b, ob)) (ho : s.obj b = s1.obj b) (hro : s.ro = s1.ro) (hb : b < most) :
    ∃ s', (exOp P ev o s = some (.skip, s') ∧ yieldsTo ev o = none ∧ isStore o.op = true) ∧ (s'.next = s.next ∧ s'.lo = s.lo ∧ s'.ro = s.ro) ∧ ∀ j, s'.obj j = (s.put b ob).obj j := by
  obtain ⟨dst, op, type, pos, after, guard⟩ := o
  unfold tgt at h
  dsimp only at h
  split at h
  · rename_i t a x
    split at h
    · rename_i ad hv
      obtain ⟨s', q1, q2, q3⟩ := storeObj_ex h ho hro hb
      refine ⟨s', ⟨?_, rfl, rfl⟩, q2, q3⟩
      show orSkip (storeQ P s t (ev a) (ev x)) (ex P (Instr.storeAt t (ev a) (ev x)) s) = _
      rw [orSkip_eq fun s' e => ⟨(), storeQ_ex e⟩, hv, q1]; rfl
    · cases h
  · cases h

theorem putsL_same (listed : Array Bool) : ∀ (l : List Sto) (s : St), (putsL listed l s).next = s.next ∧ (putsL listed l s).lo = s.lo ∧ (putsL listed l s).ro = s.ro
  | [], _ => ⟨rfl, rfl, rfl⟩
  | x :: l, s => by
    rw [putsL]
    obtain ⟨a, b, c⟩ := putsL_same listed l (bif listed.getD x.1 false then s.put x.2.1 x.2.2 else s)
    cases hl : listed.getD x.1 false <;> rw [hl] at a b c <;> exact ⟨a, b, c⟩
theorem putsL_obj (listed : Array Bool) : ∀ (l : List Sto) (s : St) (b : Nat), (∀ x ∈ l, x.2.1 < most) → (∀ x ∈ l, ∀ y ∈ l, x.2.1 = y.2.1 → x = y) →
    (∃ x ∈ l, listed.getD x.1 false = true ∧ b = x.2.1 ∧ (putsL listed l s).obj b = some x.2.2) ∨ ((∀ x ∈ l, listed.getD x.1 false = true → b ≠ x.2.1) ∧ (putsL listed l s).obj b = s.obj b) := by
  intro l
  induction l with
  | nil => intro s b _ _; exact .inr ⟨fun x h => (List.not_mem_nil h).elim, rfl⟩
  | cons x l ih =>
    intro s b h hu
    have hx := h x (by simp)
    rw [putsL]
    rcases ih (bif listed.getD x.1 false then s.put x.2.1 x.2.2 else s) b (fun y hy => h y (by simp [hy])) (fun y hy z hz => hu y (by simp [hy]) z (by simp [hz])) with ⟨y, hy, h0, h1, h2⟩ | ⟨h1, h2⟩
    · exact .inl ⟨y, by simp [hy], h0, h1, h2⟩
    · cases hl : listed.getD x.1 false with
      | false =>
        rw [hl] at h2
        refine .inr ⟨fun y hy hly => ?_, by simpa using h2⟩
        rcases List.mem_cons.1 hy with rfl | hy
        · rw [hl] at hly; cases hly
        · exact h1 y hy hly
      | true =>
        rw [hl] at h2
        simp only [cond_true] at h2 ⊢
        have e := obj_put s x.2.1 x.2.2 b hx
        by_cases hb : b = x.2.1
        · exact .inl ⟨x, by simp, hl, hb, h2.trans (by rw [e, if_pos hb])⟩
        · refine .inr ⟨fun y hy hly => ?_, h2.trans (by rw [e, if_neg hb])⟩
          rcases List.mem_cons.1 hy with rfl | hy
          · exact hb
          · exact h1 y hy hly
theorem putEnd_same : ∀ (l : List Sto) (s : St), (putEnd l s).next = s.next ∧ (putEnd l s).lo = s.lo ∧ (putEnd l s).ro = s.ro
  | [], _ => ⟨rfl, rfl, rfl⟩
  | x :: l, s => putEnd_same l (s.put x.2.1 x.2.2)
theorem putEnd_obj (listed : Array Bool) : ∀ (l : List Sto) (s : St), (∀ x ∈ l, listed.getD x.1 false = true) → putEnd l s = putsL listed l s := by
  intro l
  induction l with
  | nil => intro s _; rfl
  | cons x l ih => intro s h; rw [putEnd, putsL, h x (by simp), ih _ (fun y hy => h y (by simp [hy]))]; rfl

/-! a region in two parts -/
def onward (K : Act → World → Prop) (Q : Exit → Act → World → Prop) : Exit → Act → World → Prop
  | .normal, a, w => K a w
  | e, a, w => Q e a w

theorem wpOpIn_onward {F : Fence} {m : Nat} {ops : Array Oper} {Q : Exit → Act → World → Prop} {K0 K : Act → World → Prop} {i : Nat} {a : Act} {w : World} (h : wpOpIn F m P ops (onward K0 Q) i K a w) : wpOpIn F m P ops Q i K a w := by
  unfold wpOpIn at *
  split
  · rename_i ho; simp only [ho] at h; exact h
  · rename_i o ho
    simp only [ho] at h
    split
    · rename_i hw
      simp only [hw, if_true] at h
      refine ⟨h.1, ?_⟩
      have h2 := h.2
      generalize (o.semAt F.round a.eval).run P w = r at h2 ⊢
      cases r with
      | ok x w' =>
        cases x <;> simp only [Oper.uponIn] at h2 ⊢ <;>
          first
            | exact h2
            | exact ⟨h2.1, CallsIn.mono h2.2 fun e w'' he => by cases e <;> exact he⟩
            | exact ⟨h2.1, RoundIn.mono h2.2 fun e w'' he => by cases e <;> exact he⟩
      | halt x w' => cases x <;> simp only [Oper.uponIn] at h2 ⊢ <;> exact h2
    · rename_i hw; simp only [hw] at h; exact h

theorem head_get {k i : Nat} (hi : i < k) : (headOf ops k)[i]? = ops[i]? := by
  unfold headOf
  rw [← Array.getElem?_toList]
  show (ops.toList.take k)[i]? = _
  rw [List.getElem?_take, if_pos hi, Array.getElem?_toList]
theorem head_none {k i : Nat} (hi : k ≤ i) : (headOf ops k)[i]? = none := by
  unfold headOf
  rw [← Array.getElem?_toList]
  show (ops.toList.take k)[i]? = _
  rw [List.getElem?_take, if_neg (by omega)]
theorem head_op {F : Fence} {m k i : Nat} (hi : i < k) {Q : Exit → Act → World → Prop} {K : Act → World → Prop} {a : Act} {w : World} (hg : ∀ o j v, ops[i]? = some o → o.guard = some (j, v) → j < k) (h : wpOpIn F m P (headOf ops k) Q i K a w) : wpOpIn F m P ops Q i K a w := by
  unfold wpOpIn at *
  rw [head_get hi] at h
  cases ho : ops[i]? with
  | none => rw [ho] at h; exact h
  | some o =>
    rw [ho] at h
    dsimp only at h ⊢
    have hw : Region.wanted o (yielded (headOf ops k) a.tmps) = Region.wanted o (yielded ops a.tmps) := by
      unfold Region.wanted
      cases hgd : o.guard with
      | none => rfl
      | some p =>
        obtain ⟨j, v⟩ := p
        have := hg o j v ho hgd
        dsimp only
        unfold yielded
        rw [head_get this]
    rw [hw] at h; exact h

/-- so many listed, of a part that is whole where each is -/
def joined (lh : Array Bool) (r : Nat) : Array Bool := lh ++ Array.replicate r false
theorem joined_lt {lh : Array Bool} {r i : Nat} (d : Bool) (h : i < lh.size) : (joined lh r).getD i d = lh.getD i d := by
  unfold joined
  simp only [Array.getD_eq_getD_getElem?]
  rw [Array.getElem?_append_left h]
theorem joined_ge {lh : Array Bool} {r i : Nat} (h : lh.size ≤ i) : (joined lh r).getD i false = false := by
  unfold joined
  simp only [Array.getD_eq_getD_getElem?]
  rw [Array.getElem?_append_right h, Array.getElem?_replicate]
  split <;> rfl
theorem joined_set {lh : Array Bool} {r i : Nat} (h : i < lh.size) : (joined lh r).setIfInBounds i true = joined (lh.setIfInBounds i true) r := by
  unfold joined
  rw [Array.setIfInBounds_append, if_pos h]

theorem cut_wp {F : Fence} {mm k : Nat} {Q : Exit → Act → World → Prop} {K : Act → World → Prop} (hk : k ≤ ops.size) (hback : ∀ (i : Nat) (o : Oper), ops[i]? = some o → ∀ e ∈ o.after, Region.binds .any e = true → e.on < i)
    (htail : ∀ (i : Nat) (o : Oper), k ≤ i → ops[i]? = some o → ∀ h, h < k → Bef ops i h) (hg : ∀ (i : Nat) (o : Oper) (j : Nat) (v : Bool), i < k → ops[i]? = some o → o.guard = some (j, v) → j < k)
    (hT : ∀ (a : Act) (w : World), K a w → wpAnyIn F mm P .any ops Q (ops.size - k) (joined (Array.replicate k true) (ops.size - k)) a w) :
    ∀ (fuel : Nat) (lh : Array Bool) (a : Act) (w : World), lh.size = k → fuel + lh.toList.count true = k → (∀ (i : Nat) (o : Oper), lh.getD i false = true → ops[i]? = some o → ∀ e ∈ o.after, Region.binds .any e = true → lh.getD e.on false = true) →
      wpAnyIn F mm P .any (headOf ops k) (onward K Q) fuel lh a w → wpAnyIn F mm P .any ops Q (fuel + (ops.size - k)) (joined lh (ops.size - k)) a w := by
  intro fuel
  induction fuel with
  | zero =>
    intro lh a w hs hc _ h
    have hall : lh = Array.replicate k true := by
      have h1 : lh.toList.length = k := by simpa using hs
      have h2 : lh.toList.count true = lh.toList.length := by omega
      apply Array.ext'
      rw [Array.toList_replicate]
      exact List.eq_replicate_iff.2 ⟨h1, fun b hb => ((List.count_eq_length.1 h2) b hb).symm⟩
    subst hall
    rw [Nat.zero_add]
    exact hT a w h.2
  | succ fuel ih =>
    intro lh a w hs hc hdown h
    rw [show fuel + 1 + (ops.size - k) = (fuel + (ops.size - k)) + 1 by omega]
    -- the first that is not listed may come up
    have hex : ∃ i, i < k ∧ lh.getD i false = false := by
      refine Classical.byContradiction fun hn => ?_
      have hall : ∀ i, i < k → lh.getD i false = true := fun i hi => by
        cases hl : lh.getD i false with
        | true => rfl
        | false => exact absurd ⟨i, hi, hl⟩ hn
      have : lh.toList.count true = lh.toList.length := List.count_eq_length.2 fun b hb => by
        obtain ⟨i, hi, rfl⟩ := List.getElem_of_mem hb
        have hi' : i < lh.size := by simpa using hi
        have := hall i (by omega)
        simp [Array.getD, hi'] at this
        simpa using this.symm
      have h1 : lh.toList.length = k := by simpa using hs
      omega
    have least : ∀ n i, i ≤ n → i < k → lh.getD i false = false → ∃ j, j < k ∧ lh.getD j false = false ∧ ∀ q, q < j → lh.getD q false = true := by
      intro n
      induction n with
      | zero => intro i hi hk0 hl; exact ⟨i, hk0, hl, fun q hq => by omega⟩
      | succ n ihn =>
        intro i hi hk0 hl
        by_cases hx : ∃ q, q < i ∧ lh.getD q false = false
        · obtain ⟨q, hq, hql⟩ := hx
          exact ihn q (by omega) (by omega) hql
        · exact ⟨i, hk0, hl, fun q hq => by
            cases hql : lh.getD q false with
            | true => rfl
            | false => exact absurd ⟨q, hq, hql⟩ hx⟩
    obtain ⟨i0, hi0, hl0⟩ := hex
    obtain ⟨j0, hj0, hlj, hbelow⟩ := least i0 i0 (Nat.le_refl _) hi0 hl0
    have hrj : j0 ∈ Region.ready .any ops (joined lh (ops.size - k)) := by
      have hlt : j0 < ops.size := by omega
      refine mem_ready.2 ⟨?_, ops[j0], Array.getElem?_eq_getElem hlt, fun e he hb => ?_⟩
      · rw [joined_lt true (by omega)]
        have : j0 < lh.size := by omega
        simp [Array.getD, this] at hlj ⊢; exact hlj
      · have := hback j0 _ (Array.getElem?_eq_getElem hlt) e he hb
        rw [joined_lt false (by omega)]; exact hbelow _ this
    refine ⟨fun hr => (by rw [hr] at hrj; cases hrj), fun i hi => ?_⟩
    obtain ⟨hu, o, ho, hdep⟩ := mem_ready.1 hi
    have hik : i < k := by
      refine Nat.lt_of_not_le fun hge => ?_
      have hb := htail i o hge ho j0 hj0
      -- all that i waits for is listed
      have listed : ∀ {x y}, Bef ops x y → (∀ o', ops[x]? = some o' → ∀ e ∈ o'.after, Region.binds .any e = true → (joined lh (ops.size - k)).getD e.on false = true) → (joined lh (ops.size - k)).getD y false = true := by
        intro x y hb
        induction hb with
        | edge h1 h2 h3 => exact fun hd => hd _ h1 _ h2 h3
        | @trans x y z h1 h2 ih1 ih2 =>
          intro hd
          refine ih2 fun o' ho' e he hbe => ?_
          have hj := ih1 hd
          by_cases hlt : y < lh.size
          · rw [joined_lt false hlt] at hj
            have := hdown _ o' hj ho' e he hbe
            have he' := hback _ o' ho' e he hbe
            rw [joined_lt false (by omega)]; exact this
          · rw [joined_ge (by omega)] at hj; cases hj
      have := listed hb fun o' ho' e he hbe => by rw [ho] at ho'; cases ho'; exact hdep e he hbe
      rw [joined_lt false (by omega), hlj] at this; cases this
    have hi' : i ∈ Region.ready .any (headOf ops k) lh := by
      refine mem_ready.2 ⟨by rw [joined_lt true (by omega)] at hu; exact hu, o, by rw [head_get hik]; exact ho, fun e he hb => ?_⟩
      have h1 := hdep e he hb
      have h2 := hback i o ho e he hb
      rw [joined_lt false (by omega)] at h1; exact h1
    have hop := h.2 i hi'
    refine wpOpIn_mono (fun a w hK => ?_) (head_op hik (fun o j v h1 h2 => hg i o j v hik h1 h2) (wpOpIn_onward hop))
    rw [joined_set (by omega)]
    have hlt : i < lh.size := by omega
    have h0 : lh[i] = false := by rw [joined_lt true hlt] at hu; simpa [hlt] using hu
    refine ih _ a w (by simpa using hs) ?_ (fun q oq hq hoq e he hb => ?_) hK
    · have : (lh.setIfInBounds i true).toList.count true = lh.toList.count true + 1 := by
        rw [Array.toList_setIfInBounds, List.count_set (by simpa using hlt)]
        simp [h0]
      omega
    · by_cases eq : q = i
      · subst eq
        rw [ho] at hoq; cases hoq
        have h1 := hdep e he hb
        have h2 := hback q o ho e he hb
        rw [joined_lt false (by omega)] at h1
        rw [getD_set_ne false (by omega)]; exact h1
      · rw [getD_set_ne false (Ne.symm eq)] at hq
        have h1 := hdown q oq hq hoq e he hb
        by_cases ee : e.on = i
        · rw [ee]; simp [Array.getD, hlt]
        · rw [getD_set_ne false (Ne.symm ee)]; exact h1

/-- what is told of the last operations: frames, values, and what the stores leave -/
structure TailTold (P : Program) (ops : Array Oper) (k : Nat) (s1 : St) (F : Nat → Fr) (V : Nat → Value) (st : List Sto) : Prop where
  put : ∀ (j : Nat) (o : Oper), k ≤ j → ops[j]? = some o → F (j + 1) = (F j).put o.dst (V j)
  deed : ∀ (j : Nat) (o : Oper), k ≤ j → ops[j]? = some o → pureQ P (F j).eval o.op = some (V j) ∨ (o.dst = none ∧ V j = undef ∧ ∃ x ∈ st, x.1 = j)
  sto : ∀ x ∈ st, k ≤ x.1 ∧ ∃ o, ops[x.1]? = some o ∧ tgt P s1 (F x.1).eval o.op = some x.2
  uniq : ∀ x ∈ st, ∀ y ∈ st, x.2.1 = y.2.1 → x = y

theorem tailRun_told {k : Nat} {s1 : St} : ∀ (l : List Oper) (j : Nat) (f : Fr) (st : List Sto) (f' : Fr) (st' : List Sto), k ≤ j → ops.toList.drop j = l → tailRun P s1 l j f st = some (f', st') →
    (∀ x ∈ st, ∀ y ∈ st, x.2.1 = y.2.1 → x = y) → (∀ x ∈ st, x.1 < j) →
    ∃ (F : Nat → Fr) (V : Nat → Value), F j = f ∧ F (j + l.length) = f' ∧ (∀ x ∈ st, x ∈ st') ∧ (∀ x ∈ st', ∀ y ∈ st', x.2.1 = y.2.1 → x = y) ∧
      (∀ (i : Nat) (o : Oper), j ≤ i → ops[i]? = some o → F (i + 1) = (F i).put o.dst (V i) ∧ (pureQ P (F i).eval o.op = some (V i) ∨ (o.dst = none ∧ V i = undef ∧ ∃ x ∈ st', x.1 = i))) ∧
      (∀ x ∈ st', x ∈ st ∨ (j ≤ x.1 ∧ ∃ o, ops[x.1]? = some o ∧ tgt P s1 (F x.1).eval o.op = some x.2)) := by
  intro l
  induction l with
  | nil =>
    intro j f st f' st' hk hl h hu hlt
    cases h
    have hsz : ops.size ≤ j := by
      have : (ops.toList.drop j).length = 0 := by rw [hl]; rfl
      simp at this; omega
    exact ⟨fun _ => f, fun _ => undef, rfl, rfl, fun x h => h, hu, fun i o hi ho => (by have := (Array.getElem?_eq_some_iff.1 ho).1; omega), fun x h => .inl h⟩
  | cons o l ih =>
    intro j f st f' st' hk hl h hu hlt
    have ho : ops[j]? = some o := by
      have : (ops.toList.drop j)[0]? = some o := by rw [hl]; rfl
      simpa using this
    have hl' : ops.toList.drop (j + 1) = l := by rw [← List.drop_drop, hl]; rfl
    unfold tailRun at h
    cases hp : pureQ P f.eval o.op with
    | some v =>
      rw [hp] at h
      obtain ⟨F, V, e1, e2, e3, e4, e5, e6⟩ := ih (j + 1) _ st f' st' (by omega) hl' h hu (fun x hx => Nat.lt_succ_of_lt (hlt x hx))
      refine ⟨fun i => if i = j then f else F i, fun i => if i = j then v else V i, if_pos rfl, ?_, e3, e4, fun i oi hi hoi => ?_, fun x hx => ?_⟩
      · show (if j + (o :: l).length = j then f else F (j + (o :: l).length)) = f'
        rw [List.length_cons, if_neg (by omega), ← e2]; congr 1; omega
      · by_cases e : i = j
        · subst e
          rw [ho] at hoi; cases hoi
          simp only [if_true]
          rw [if_neg (by omega)]
          exact ⟨e1, .inl hp⟩
        · simp only [if_neg e]
          rw [if_neg (by omega)]
          exact e5 i oi (by omega) hoi
      · rcases e6 x hx with h1 | ⟨h1, o', h2, h3⟩
        · exact .inl h1
        · refine .inr ⟨by omega, o', h2, ?_⟩
          show tgt P s1 (if x.1 = j then f else F x.1).eval o'.op = some x.2
          rw [if_neg (by omega)]; exact h3
    | none =>
      rw [hp] at h
      dsimp only at h
      cases ht : tgt P s1 f.eval o.op with
      | none => rw [ht] at h; cases h
      | some q =>
        obtain ⟨b, ob⟩ := q
        rw [ht] at h
        dsimp only at h
        cases hg : (st.any (fun x => Nat.beq x.2.1 b) || o.dst.isSome) with
        | true => rw [hg] at h; cases h
        | false =>
          rw [hg] at h
          simp only [cond_false] at h
          simp only [Bool.or_eq_false_iff] at hg
          obtain ⟨g1, g2⟩ := hg
          have hd : o.dst = none := by cases hds : o.dst with
            | none => rfl
            | some t => rw [hds] at g2; cases g2
          have hnew : ∀ x ∈ st, x.2.1 ≠ b := fun x hx e => by
            have := List.any_eq_false.1 g1 x hx
            rw [e] at this; simp at this
          obtain ⟨F, V, e1, e2, e3, e4, e5, e6⟩ := ih (j + 1) f ((j, b, ob) :: st) f' st' (by omega) hl' h (fun x hx y hy e => by
            rcases List.mem_cons.1 hx with rfl | hx <;> rcases List.mem_cons.1 hy with rfl | hy
            · rfl
            · exact absurd e.symm (hnew y hy)
            · exact absurd e (hnew x hx)
            · exact hu x hx y hy e) (fun x hx => by
              rcases List.mem_cons.1 hx with rfl | hx
              · exact Nat.lt_succ_self _
              · exact Nat.lt_succ_of_lt (hlt x hx))
          refine ⟨fun i => if i = j then f else F i, fun i => if i = j then undef else V i, if_pos rfl, ?_, fun x hx => e3 x (by simp [hx]), e4, fun i oi hi hoi => ?_, fun x hx => ?_⟩
          · show (if j + (o :: l).length = j then f else F (j + (o :: l).length)) = f'
            rw [List.length_cons, if_neg (by omega), ← e2]; congr 1; omega
          · by_cases e : i = j
            · subst e
              rw [ho] at hoi; cases hoi
              simp only [if_true]
              rw [if_neg (by omega), hd]
              exact ⟨e1, .inr ⟨by first | trivial | rfl, by first | trivial | rfl, (i, b, ob), e3 _ (by simp), rfl⟩⟩
            · simp only [if_neg e]
              rw [if_neg (by omega)]
              exact e5 i oi (by omega) hoi
          · rcases e6 x hx with h1 | ⟨h1, o', h2, h3⟩
            · rcases List.mem_cons.1 h1 with rfl | h1
              · refine .inr ⟨Nat.le_refl _, o, ho, ?_⟩
                simp only [if_true]; exact ht
              · exact .inl h1
            · refine .inr ⟨by omega, o', h2, ?_⟩
              show tgt P s1 (if x.1 = j then f else F x.1).eval o'.op = some x.2
              rw [if_neg (by omega)]; exact h3

theorem fvalT {k : Nat} {s1 : St} {F : Nat → Fr} {V : Nat → Value} {st : List Sto} (hn : n ≤ most) (hops : ∀ (j : Nat) (p : Oper), ops[j]? = some p → okOper P gl n p = true)
    (hdst : ∀ (i j : Nat) (oi oj : Oper) (t : Nat), ops[i]? = some oi → ops[j]? = some oj → oi.dst = some t → oj.dst = some t → i = j) (hT : TailTold P ops k s1 F V st) :
    ∀ d, k + d ≤ ops.size → (∀ t, (∀ (j : Nat) (o : Oper), k ≤ j → j < k + d → ops[j]? = some o → o.dst ≠ some t) → (F (k + d)).get t = (F k).get t) ∧
      ∀ (j : Nat) (o : Oper) (t : Nat), k ≤ j → j < k + d → ops[j]? = some o → o.dst = some t → (F (k + d)).get t = V j := by
  intro d
  induction d with
  | zero => intro _; exact ⟨fun t _ => rfl, fun j o t h1 h2 => by omega⟩
  | succ d ih =>
    intro hd
    obtain ⟨ih1, ih2⟩ := ih (by omega)
    have hlt : k + d < ops.size := by omega
    have ho := Array.getElem?_eq_getElem hlt
    have hp := hT.put (k + d) _ (by omega) ho
    rw [show k + (d + 1) = k + d + 1 by omega, hp]
    have hput : ∀ t, (ops[k + d]).dst ≠ some t → ((F (k + d)).put (ops[k + d]).dst (V (k + d))).get t = (F (k + d)).get t := fun t ht => by
      cases hds : (ops[k + d]).dst with
      | none => rfl
      | some q => exact get_put_other _ _ _ _ fun e => ht (by rw [hds, e])
    refine ⟨fun t ht => ?_, fun j o t h1 h2 h3 h4 => ?_⟩
    · rw [hput t (ht (k + d) _ (by omega) (by omega) ho)]
      exact ih1 t fun j o h1 h2 => ht j o h1 (by omega)
    · by_cases e : j = k + d
      · subst e
        rw [ho] at h3; cases h3
        rw [h4]
        have hdn : t < n := by
          have := hops (k + d) _ ho
          unfold okOper at this
          rw [h4] at this
          simp only [Bool.and_eq_true] at this
          exact unblt this.2.2
        exact get_put_same _ _ _ (by omega)
      · rw [hput t fun e2 => e (hdst j (k + d) o _ t h3 ho h4 e2)]
        exact ih2 j o t h1 (by omega) h3 h4

/-- what holds when some of the last operations are done -/
structure TInv (P : Program) (ops : Array Oper) (gl n : Nat) (D : List Deferred) (k : Nat) (f1 : Fr) (V : Nat → Value) (st : List Sto) (ρ1 : Rho) (s1 : St) (w1 : World) (listed : Array Bool) (a : Act) (w : World) : Prop where
  size : listed.size = ops.size
  head : ∀ i, i < k → listed.getD i false = true
  down : ∀ (i : Nat) (o : Oper), listed.getD i false = true → ops[i]? = some o → ∀ e ∈ o.after, Region.binds .any e = true → listed.getD e.on false = true
  at_ : ∃ ρ, ST P ρ1 s1 w1 ρ (putsL listed st s1) w ∧ (∀ (i : Nat) (o : Oper) (t : Nat), k ≤ i → listed.getD i false = true → ops[i]? = some o → o.dst = some t → VR ρ (V i) (a.tmps.getD t undef)) ∧
    (∀ t, (∀ (i : Nat) (o : Oper), k ≤ i → listed.getD i false = true → ops[i]? = some o → o.dst ≠ some t) → VR ρ (f1.get t) (a.tmps.getD t undef))
  tsize : a.tmps.size = n
  defers : a.defers = D

theorem tail_wp (hG : Good P) (hcl : CallsOk P gl cl) (hops : ∀ (j : Nat) (p : Oper), ops[j]? = some p → okOper P gl n p = true) (hn : n ≤ most) {k : Nat} (hk : k ≤ ops.size)
    (hback : ∀ (i : Nat) (o : Oper), ops[i]? = some o → ∀ e ∈ o.after, Region.binds .any e = true → e.on < i)
    (hdst : ∀ (i j : Nat) (oi oj : Oper) (t : Nat), ops[i]? = some oi → ops[j]? = some oj → oi.dst = some t → oj.dst = some t → i = j)
    (hreads : ∀ (i j : Nat) (oi oj : Oper) (t : Nat), ops[i]? = some oi → ops[j]? = some oj → oi.dst = some t → i ≠ j → t ∈ tmpsOf ops oj → Bef ops j i ∨ Bef ops i j)
    (hguard : ∀ (j : Nat) (o : Oper), k ≤ j → ops[j]? = some o → o.guard = none)
    {s1 : St} {F : Nat → Fr} {V : Nat → Value} {st : List Sto} (hT : TailTold P ops k s1 F V st)
    {ρ1 : Rho} {w1 : World} (hz1 : RZ P ρ1 s1 w1) (hm1 : s1.next ≤ most) (hgl : ∀ g, g < gl → ρ1.at_ g = some g ∧ ρ1.off g = 0) {Q : Exit → Act → World → Prop}
    (hQ : ∀ ρ' a' w', FR ρ' gl n D (F ops.size) a' → ST P ρ1 s1 w1 ρ' (putEnd st s1) w' → Q .normal a' w') :
    ∀ (fuel : Nat) (listed : Array Bool) (a : Act) (w : World), ops.size ≤ fuel + listed.toList.count true → TInv P ops gl n D k (F k) V st ρ1 s1 w1 listed a w → wpAnyIn (fen R) 0 P .any ops Q fuel listed a w := by
  have lt : ∀ {i j}, Bef ops i j → j < i := fun hb => by
    induction hb with
    | edge h1 h2 h3 => exact hback _ _ h1 _ h2 h3
    | trans _ _ ih ik => omega
  have hF := fvalT hn hops hdst hT
  have blk : ∀ x ∈ st, (∃ o', s1.obj x.2.1 = some o') ∧ s1.ro ≤ x.2.1 := fun x hx => by
    obtain ⟨_, o, _, h⟩ := hT.sto x hx
    unfold tgt at h
    split at h
    · split at h
      · unfold storeObj at h
        split at h
        · rename_i c e f i hc hi
          cases hg : ((Nat.beq (cellsL _).length i.size && (cellsL _).all oneV) && (Nat.beq f.2 0 && _) && (Nat.ble s1.ro _ && Nat.ble (_ + (cellsL _).length) c.toList.length)) with
          | false => rw [hg] at h; cases h
          | true =>
            rw [hg] at h
            have e := Option.some.inj h
            rw [← e]
            simp only [Bool.and_eq_true, Nat.ble_eq] at hg
            exact ⟨⟨_, hc⟩, hg.2.1⟩
        · cases h
      · cases h
    · cases h
  have blt : ∀ x ∈ st, x.2.1 < most := fun x hx => by
    obtain ⟨⟨o', h⟩, _⟩ := blk x hx
    exact ex_lt hz1 hm1 h
  have idx : ∀ x ∈ st, ∀ y ∈ st, x.1 = y.1 → x = y := fun x hx y hy e => by
    obtain ⟨_, o, h1, h2⟩ := hT.sto x hx
    obtain ⟨_, o', h3, h4⟩ := hT.sto y hy
    rw [e] at h1 h2
    rw [h1] at h3; cases h3
    rw [h2] at h4
    exact Prod.ext e (Option.some.inj h4)
  have hend : ∀ (listed : Array Bool) (a : Act) (w : World), TInv P ops gl n D k (F k) V st ρ1 s1 w1 listed a w → Region.ready .any ops listed = [] → Q .normal a w := by
    intro listed a w hI hr
    have hall : ∀ i, i < ops.size → listed.getD i false = true := by
      intro i
      induction i using Nat.strongRecOn with
      | ind i ih =>
        intro hi
        cases hl : listed.getD i false with
        | true => rfl
        | false =>
          have : i ∈ Region.ready .any ops listed := mem_ready.2 ⟨by
            have : i < listed.size := by rw [hI.size]; exact hi
            simp [this] at hl ⊢; exact hl, ops[i], Array.getElem?_eq_getElem hi, fun e he hb => by
              have hlt := hback i ops[i] (Array.getElem?_eq_getElem hi) e he hb
              exact ih e.on hlt (by omega)⟩
          rw [hr] at this; cases this
    obtain ⟨ρ, hS, hV, hf⟩ := hI.at_
    rw [← putEnd_obj listed st s1 fun x hx => by
      obtain ⟨_, o, h1, _⟩ := hT.sto x hx
      exact hall _ (Array.getElem?_eq_some_iff.1 h1).1] at hS
    obtain ⟨h1, h2⟩ := hF (ops.size - k) (by omega)
    rw [show k + (ops.size - k) = ops.size by omega] at h1 h2
    refine hQ ρ a w ⟨fun t => ?_, hI.tsize, hI.defers, fun g hg => glob_le hS.le (hgl g hg), hn⟩ hS
    by_cases hx : ∃ (j : Nat) (o : Oper), k ≤ j ∧ ops[j]? = some o ∧ o.dst = some t
    · obtain ⟨j, o, hkj, ho, hd⟩ := hx
      have hj := (Array.getElem?_eq_some_iff.1 ho).1
      rw [h2 j o t hkj hj ho hd]
      exact hV j o t hkj (hall j hj) ho hd
    · rw [h1 t fun j o hkj _ ho hd => hx ⟨j, o, hkj, ho, hd⟩]
      exact hf t fun j o hkj _ ho hd => hx ⟨j, o, hkj, ho, hd⟩
  intro fuel
  induction fuel with
  | zero =>
    intro listed a w hc hI
    have hz := hI.size
    have hall : listed.toList.count true = listed.toList.length := by
      have := List.count_le_length (a := true) (l := listed.toList)
      simp at this hc ⊢; omega
    have hr : Region.ready .any ops listed = [] := by
      cases h : Region.ready .any ops listed with
      | nil => rfl
      | cons i l =>
        have hi : i ∈ Region.ready .any ops listed := by rw [h]; simp
        obtain ⟨h0, o, ho, _⟩ := mem_ready.1 hi
        have hlt : i < listed.size := by rw [hz]; exact (Array.getElem?_eq_some_iff.1 ho).1
        have := List.count_eq_length.1 hall listed[i] (by simp)
        simp [hlt] at h0
        rw [h0] at this; cases this
    exact ⟨hr, hend listed a w hI hr⟩
  | succ fuel ih =>
    intro listed a w hc hI
    refine ⟨hend listed a w hI, fun i hi => ?_⟩
    obtain ⟨h0, o, ho, hdep⟩ := mem_ready.1 hi
    have hz := hI.size
    have hiN := (Array.getElem?_eq_some_iff.1 ho).1
    have hlt : i < listed.size := by rw [hz]; exact hiN
    have h0' : listed[i] = false := by simpa [hlt] using h0
    have hil : listed.getD i false = false := by simp [Array.getD, hlt, h0']
    have hki : k ≤ i := by
      refine Nat.le_of_not_lt fun h => ?_
      rw [hI.head i h] at hil; cases hil
    obtain ⟨ρ, hS, hV, hf⟩ := hI.at_
    have befL : ∀ {x y}, Bef ops x y → (∀ o', ops[x]? = some o' → ∀ e ∈ o'.after, Region.binds .any e = true → listed.getD e.on false = true) → listed.getD y false = true := by
      intro x y hb
      induction hb with
      | edge h1 h2 h3 => exact fun hd => hd _ h1 _ h2 h3
      | trans h1 h2 ih1 ih2 => exact fun hd => ih2 fun o' ho' e he hbe => hI.down _ o' (ih1 hd) ho' e he hbe
    have mine : ∀ {j}, Bef ops i j → listed.getD j false = true := fun hb => befL hb fun o' ho' e he hbe => by rw [ho] at ho'; cases ho'; exact hdep e he hbe
    have others : ∀ {j}, Bef ops j i → listed.getD j false = false := fun {j} hb => by
      cases hl : listed.getD j false with
      | false => rfl
      | true =>
        have := befL hb fun o' ho' e he hbe => hI.down _ o' hl ho' e he hbe
        rw [hil] at this; cases this
    obtain ⟨hF1, hF2⟩ := hF (i - k) (by omega)
    rw [show k + (i - k) = i by omega] at hF1 hF2
    have htmp : ∀ t, t ∈ tmpsOf ops o → VR ρ ((F i).get t) (a.tmps.getD t undef) := by
      intro t ht
      by_cases hx : ∃ (j : Nat) (oj : Oper), k ≤ j ∧ ops[j]? = some oj ∧ oj.dst = some t
      · obtain ⟨j, oj, hkj, hoj, hd⟩ := hx
        have huniq : ∀ (j' : Nat) (o' : Oper), ops[j']? = some o' → o'.dst = some t → j' = j := fun j' o' h1 h2 => hdst j' j o' oj t h1 hoj h2 hd
        have hno : listed.getD j false = false → ¬ j < i → VR ρ ((F i).get t) (a.tmps.getD t undef) := by
          intro hl hlt
          rw [hF1 t fun j' o' hk' hj' ho' hd' => by have := huniq j' o' ho' hd'; omega]
          exact hf t fun j' o' _ hl' ho' hd' => by have := huniq j' o' ho' hd'; subst this; rw [hl] at hl'; cases hl'
        by_cases e : j = i
        · exact hno (e ▸ hil) (by omega)
        · rcases hreads j i oj o t hoj ho hd e ht with hb | hb
          · rw [hF2 j oj t hkj (lt hb) hoj hd]
            exact hV j oj t hkj (mine hb) hoj hd
          · exact hno (others hb) (by have := lt hb; omega)
      · rw [hF1 t fun j' o' hk' _ ho' hd' => hx ⟨j', o', hk', ho', hd'⟩]
        exact hf t fun j' o' hk' _ ho' hd' => hx ⟨j', o', hk', ho', hd'⟩
    have hgl' : ∀ g, g < gl → ρ.at_ g = some g ∧ ρ.off g = 0 := fun g hg => glob_le hS.le (hgl g hg)
    have hev := okOper_eval (hops i o ho) hgl' (f := F i) (a := a) fun t ht => htmp t (tmp_mem ht)
    have hgu := hguard i o hki ho
    have hwe : Region.wanted o (yielded ops a.tmps) = wants ops (F i) o := by
      unfold Region.wanted wants; rw [hgu]
    have hw1 : wants ops (F i) o = true := by unfold wants; rw [hgu]
    obtain ⟨pn, pl, pr⟩ := putsL_same listed st s1
    have hset : ∀ j, (listed.setIfInBounds i true).getD j false = true ↔ (listed.getD j false = true ∨ j = i) := by
      intro j
      by_cases e : j = i
      · subst e; simp [Array.getD, hlt]
      · rw [getD_set_ne false (Ne.symm e)]; simp [e]
    have hdn : ∀ d, o.dst = some d → d < n := fun d hd => by
      have := hops i o ho
      unfold okOper at this
      rw [hd] at this
      simp only [Bool.and_eq_true] at this
      exact unblt this.2.2
    -- on with the rest
    have fin : ∀ (ρ2 : Rho) (v' : Value) (w2 : World), VR ρ2 (V i) v' → ST P ρ1 s1 w1 ρ2 (putsL (listed.setIfInBounds i true) st s1) w2 → ρ.le ρ2 → wpAnyIn (fen R) 0 P .any ops Q fuel (listed.setIfInBounds i true) (a.put o.dst v') w2 := by
      intro ρ2 v' w2 hv hS2 hle2
      refine ih _ _ _ ?_ ⟨by simpa using hz, fun j hj => (hset j).2 (.inl (hI.head j hj)), fun j oj hj hoj e he hb => ?_, ⟨ρ2, hS2, fun j oj t hkj hj hoj hd => ?_, fun t ht => ?_⟩, ?_, ?_⟩
      · have : (listed.setIfInBounds i true).toList.count true = listed.toList.count true + 1 := by
          rw [Array.toList_setIfInBounds, List.count_set (by simpa using hlt)]
          simp [h0']
        omega
      · rw [hset] at hj ⊢
        rcases hj with hj | rfl
        · exact .inl (hI.down j oj hj hoj e he hb)
        · rw [ho] at hoj; cases hoj; exact .inl (hdep e he hb)
      · rw [hset] at hj
        by_cases e : j = i
        · subst e
          rw [ho] at hoj; cases hoj
          have := hdn t hd
          rw [hd]
          have : t < a.tmps.size := by rw [hI.tsize]; exact this
          simp [Act.put, Array.getD, this]
          exact hv
        · have hj' := hj.resolve_right e
          have hne : o.dst ≠ some t := fun h => e (hdst j i oj o t hoj ho hd h)
          have := (hV j oj t hkj hj' hoj hd).mono hle2
          cases hod : o.dst with
          | none => simpa [Act.put] using this
          | some d =>
            have hdt : d ≠ t := fun h => hne (by rw [hod, h])
            simp only [Act.put, Array.getD_eq_getD_getElem?, Array.getElem?_setIfInBounds] at this ⊢
            rw [if_neg hdt]; exact this
      · have hne : o.dst ≠ some t := ht i o hki ((hset i).2 (.inr rfl)) ho
        have := (hf t fun j oj hkj hj hoj => ht j oj hkj ((hset j).2 (.inl hj)) hoj).mono hle2
        cases hod : o.dst with
        | none => simpa [Act.put] using this
        | some d =>
          have hdt : d ≠ t := fun h => hne (by rw [hod, h])
          simp only [Act.put, Array.getD_eq_getD_getElem?, Array.getElem?_setIfInBounds] at this ⊢
          rw [if_neg hdt]; exact this
      · cases hod : o.dst <;> simp [Act.put, hI.tsize]
      · cases hod : o.dst <;> simp [Act.put, hI.defers]
    rcases hT.deed i o hki ho with hp | ⟨hd, hv, x, hx, hxi⟩
    · obtain ⟨p1, p2, p3⟩ := pureQ_ex hp (putsL listed st s1)
      have hrun : oper1 P cl ops o (F i) (putsL listed st s1) = some (V i, putsL listed st s1) := by
        rw [oper1_eq, hw1, p2, p1]; rfl
      refine oper1_wp hG hcl ho hrun hev (okOper_ty (hops i o ho)) hwe hgl' hS.rz (by omega) fun ρ2 v' w2 hv hS2 _ => ?_
      have hsame : putsL (listed.setIfInBounds i true) st s1 = putsL listed st s1 := by
        have : ∀ (l : List Sto) (s : St), (∀ y ∈ l, y.1 ≠ i) → putsL (listed.setIfInBounds i true) l s = putsL listed l s := by
          intro l
          induction l with
          | nil => intro s _; rfl
          | cons y l ihl => intro s h; rw [putsL, putsL, getD_set_ne false (Ne.symm (h y (by simp))), ihl _ fun z hz => h z (by simp [hz])]
        refine this st s1 fun y hy e => ?_
        obtain ⟨_, o', h1, h2⟩ := hT.sto y hy
        rw [e, ho] at h1; cases h1
        unfold tgt at h2
        split at h2
        · rename_i hop; rw [hop] at p3; cases p3
        · cases h2
      exact fin ρ2 v' w2 hv (by rw [hsame]; exact hS.trans hS2) hS2.le
    · obtain ⟨_, o', h1, h2⟩ := hT.sto x hx
      rw [hxi] at h1 h2
      rw [ho] at h1; cases h1
      have hb := blt x hx
      have hfree : (putsL listed st s1).obj x.2.1 = s1.obj x.2.1 := by
        rcases putsL_obj listed st s1 x.2.1 blt hT.uniq with ⟨y, hy, hly, e, _⟩ | ⟨_, h⟩
        · have := hT.uniq x hx y hy e
          subst this
          rw [hxi, hil] at hly; cases hly
        · exact h
      obtain ⟨s', ⟨q1, q2, _⟩, ⟨n1, n2, n3⟩, q3⟩ := tgt_ex (s := putsL listed st s1) h2 hfree pr hb
      have hrun : oper1 P cl ops o (F i) (putsL listed st s1) = some (V i, s') := by
        rw [oper1_eq, hw1, q2, q1, hv]; rfl
      refine oper1_wp hG hcl ho hrun hev (okOper_ty (hops i o ho)) hwe hgl' hS.rz (by omega) fun ρ2 v' w2 hv hS2 _ => ?_
      refine fin ρ2 v' w2 hv ((hS.trans hS2).congr ?_ fun b => ?_) hS2.le
      · obtain ⟨m1, m2, m3⟩ := putsL_same (listed.setIfInBounds i true) st s1
        exact ⟨m1.trans (pn.symm.trans n1.symm), m2.trans (pl.symm.trans n2.symm), m3.trans (pr.symm.trans n3.symm)⟩
      · rw [q3, obj_put _ _ _ _ hb]
        rcases putsL_obj (listed.setIfInBounds i true) st s1 b blt hT.uniq with ⟨y, hy, hly, e, h⟩ | ⟨h3, h⟩
        · rw [h]
          rcases (hset y.1).1 hly with hly | hyi
          · by_cases eb : b = x.2.1
            · have := hT.uniq x hx y hy (eb.symm.trans e)
              subst this
              rw [hxi, hil] at hly; cases hly
            · rw [if_neg eb]
              rcases putsL_obj listed st s1 b blt hT.uniq with ⟨z, hz2, hlz, e2, h5⟩ | ⟨h4, _⟩
              · have := hT.uniq y hy z hz2 (e.symm.trans e2)
                subst this
                exact h5.symm
              · exact absurd e (h4 y hy hly)
          · have := idx y hy x hx (hyi.trans hxi.symm)
            subst this
            rw [if_pos e]
        · have eb : b ≠ x.2.1 := h3 x hx ((hset x.1).2 (.inr hxi))
          rw [if_neg eb, h]
          rcases putsL_obj listed st s1 b blt hT.uniq with ⟨z, hz2, hlz, e2, _⟩ | ⟨_, h5⟩
          · exact absurd e2 (h3 z hz2 ((hset z.1).2 (.inl hlz)))
          · exact h5.symm
end
end
end Go.Proofs.YtdcjkglhhmnjiaaGreatDoor.Sx
