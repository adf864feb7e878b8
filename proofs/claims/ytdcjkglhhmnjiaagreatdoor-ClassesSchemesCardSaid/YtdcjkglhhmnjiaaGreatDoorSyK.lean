/- Operations that turn nothing. -/
import Derived.Test.YtdcjkglhhmnjiaaGreatDoorSyJ
namespace Go.Proofs.YtdcjkglhhmnjiaaGreatDoor.Sx
noncomputable section

/-- it turns nothing -/
def Still {α : Type} (P : Program) (x : Sem α) : Prop := ∀ s a s', ex P x s = some (a, s') → s' = s

section
variable {P : Program}
theorem Still.pure {α : Type} (a : α) : Still P (Sem.pure a) := fun s b s' h => by simp only [ex] at h; cases h; rfl
theorem Still.halt {α : Type} (h : Halt) : Still P (.halt h : Sem α) := fun s b s' h => by simp only [ex] at h; cases h
theorem Still.dead {α : Type} {x : Sem α} (h : Dead P x) : Still P x := fun s b s' e => by rw [h s] at e; cases e
theorem Still.bind {α β : Type} {x : Sem α} {f : α → Sem β} (h : Still P x) (k : ∀ a, Still P (f a)) : Still P (x.bind f) := fun s b s' e => by
  rw [ex_bind] at e
  split at e
  · rename_i a s1 h1
    have := h s a s1 h1
    subst this
    exact k a _ _ _ e
  · cases e
theorem Still.prog : Still P program := fun s b s' h => by simp only [program, ex] at h; cases h; rfl
theorem Still.info (t : TypeId) : Still P (typeInfo t) := by
  unfold typeInfo
  refine .bind .prog fun p => ?_
  split <;> first | exact .pure _ | exact .halt _
theorem Still.und (t : TypeId) : Still P (underlying t) := by
  unfold underlying
  refine .bind .prog fun p => ?_
  split <;> first | exact .pure _ | exact .halt _
theorem Still.size (t : TypeId) : Still P (sizeOf t) := by
  unfold sizeOf; exact .bind (.info t) fun _ => .pure _
theorem Still.isAgg (t : TypeId) : Still P (Go.isAgg t) := by
  unfold Go.isAgg
  refine .bind (.und t) fun d => ?_
  cases d <;> exact .pure _
theorem Still.zero (t : TypeId) : Still P (zeroValue t) := by
  unfold zeroValue
  refine .bind (.info t) fun i => ?_
  split <;> first | exact .pure _ | exact .halt _
theorem Still.load (a : Addr) (m : Mode) : Still P (load a m) := fun s b s' h => by
  simp only [Go.load, ex] at h
  split at h
  · cases hs : a.spot.isSome with
    | true => rw [hs] at h; cases h
    | false =>
      rw [hs] at h
      simp only [cond_false] at h
      split at h
      · cases h; rfl
      · cases h
  · cases h
theorem Still.loadFrom : ∀ (n : Nat) (a : Addr) (i : Nat) (xs : Array Value), Still P (loadCellsFrom a i n xs) := by
  intro n
  induction n with
  | zero => intro a i xs; exact .pure _
  | succ n ih => intro a i xs; rw [loadCellsFrom]; exact .bind (.load _ _) fun v => ih _ _ _
theorem Still.loadVar (t : TypeId) (a : Addr) : Still P (loadVar t a) := by
  unfold Go.loadVar
  refine .bind (.isAgg t) fun b => ?_
  cases b with
  | true => exact .bind (.size t) fun n => .bind (.loadFrom _ _ _ _) fun _ => .pure _
  | false => exact .load _ _
theorem Still.part (t : TypeId) (cs : Array Value) (n : Nat) : Still P (part t cs n) := by
  unfold Go.part
  refine .bind (.isAgg t) fun b => ?_
  cases b with
  | true => exact .bind (.size t) fun m => .pure _
  | false =>
    simp only [Bool.false_eq_true, if_false]
    split <;> first | exact .pure _ | exact .halt _
theorem Still.sureAddr (v : Value) : Still P (Instr.sureAddr v) := by
  unfold Instr.sureAddr
  split <;> first | exact .pure _ | exact .halt _
theorem Still.asIntOf (v : Value) : Still P (asIntOf v) := by
  unfold Go.asIntOf
  split <;> first | exact .pure _ | exact .halt _
theorem Still.asAgg (v : Value) : Still P (asAgg v) := by
  unfold Go.asAgg
  split <;> first | exact .pure _ | exact .halt _
theorem Still.mapL {α β : Type} (f : α → Sem β) (hf : ∀ x, Still P (f x)) : ∀ (l : List α), Still P (l.mapM f)
  | [] => by rw [List.mapM_nil]; exact .pure _
  | x :: l => by rw [List.mapM_cons]; exact .bind (hf x) fun _ => .bind (Still.mapL f hf l) fun _ => .pure _
theorem Still.mapM {α β : Type} (f : α → Sem β) (hf : ∀ x, Still P (f x)) (xs : Array α) : Still P (xs.mapM f) := by
  rw [Array.mapM_eq_mapM_toList]
  exact .bind (Still.mapL f hf xs.toList) fun _ => .pure _
theorem Still.build (t : TypeId) (ps : Array (Nat × Value)) : Still P (Instr.build t ps) := by
  unfold Instr.build
  refine .bind (.zero t) fun z => .bind (.und t) fun d => ?_
  cases d with
  | struct fs =>
    refine .bind (Still.mapM _ (fun f => .bind (.size _) fun _ => .pure _) _) fun places => ?_
    split <;> first | exact .pure _ | exact .halt _
  | array n e =>
    refine .bind (.size e) fun m => ?_
    split <;> first | exact .pure _ | exact .halt _
  | _ => exact .halt _
theorem Still.loadAt (t : TypeId) (v : Value) : Still P (Instr.loadAt t v) := by
  unfold Instr.loadAt; exact .bind (.sureAddr v) fun a => .loadVar t a
theorem Still.intArith (op : BinOp) (k : IntKind) (x y : Int) : Still P (Op.intArith op k x y) := by
  unfold Op.intArith; split <;> first | exact .pure _ | exact .halt _
theorem Still.intBits (op : BinOp) (k : IntKind) (x y : Int) : Still P (Op.intBits op k x y) := by
  unfold Op.intBits; dsimp only; split <;> first | exact .pure _ | exact .halt _
theorem Still.binInt (op : BinOp) (t : TypeId) (k k' : IntKind) (a b : Int) (h1 : op ≠ .shl) (h2 : op ≠ .shr) : Still P (binOp op t (.int k a) (.int k' b)) := by
  by_cases e : k = k'
  · subst e
    have hd : Still P (Op.intDiv .quo k a b) ∧ Still P (Op.intDiv .rem k a b) := by
      constructor <;>
      · unfold Op.intDiv
        split
        · exact .dead (dead_panic _)
        · exact .pure _
    have hc : ∀ op, Still P (Op.intCmp op a b) := fun op => by unfold Op.intCmp; split <;> first | exact .pure _ | exact .halt _
    cases op <;> first | exact absurd rfl h1 | exact absurd rfl h2 | (simp only [binOp, ne_eq, not_true_eq_false, if_false]; first | exact .intArith _ _ _ _ | exact hd.1 | exact hd.2 | exact .intBits _ _ _ _ | exact hc _)
  · cases op <;> first | exact absurd rfl h1 | exact absurd rfl h2 | (simp only [binOp, ne_eq, e, not_false_eq_true, if_true]; exact .halt _)
theorem Still.stringOp (op : BinOp) (x y : ByteArray) : Still P (Op.stringOp op x y) := by
  unfold Op.stringOp; dsimp only
  split
  · split
    · exact .halt _
    · exact .pure _
  all_goals first | exact .pure _ | exact .halt _
theorem Still.unary (op : UnOp) (v : Value) : Still P (Op.unary op v) := by
  unfold Op.unary
  split <;> first | exact .intArith _ _ _ _ | exact .intBits _ _ _ _ | exact .pure _ | exact .halt _
theorem Still.makeInterface (t : TypeId) (v : Value) : Still P (Instr.makeInterface t v) := by
  unfold Instr.makeInterface
  refine .bind (.und t) fun d => ?_
  cases d <;> first | exact .pure _ | exact .halt _
theorem Still.field (t : TypeId) (v : Value) (n : Nat) : Still P (Instr.field t v n) := by
  unfold Instr.field
  refine .bind (.und t) fun d => ?_
  cases d with
  | struct fs =>
    dsimp only
    split
    · exact .bind (.asAgg v) fun _ => .part _ _ _
    · exact .halt _
  | _ => exact .halt _
theorem Still.extract (v : Value) (n : Nat) : Still P (Instr.extract v n) := by
  unfold Instr.extract
  split
  · split <;> first | exact .pure _ | exact .halt _
  · exact .halt _

/-- whether an operation may turn something -/
def isAct (P : Program) : Op → Bool
  | .move _ => false
  | .assign _ => false
  | .pick .. => false
  | .build .. => false
  | .load .. => false
  | .nilCheck _ => false
  | .binOp .. => false
  | .unOp .. => false
  | .makeInterface .. => false
  | .makeFunc .. => false
  | .slice .. => false
  | .field .. => false
  | .extract .. => false
  | .lookup .. => false
  | .index .. => false
  | .typeAssert .. => false
  | .convert _ b _ => match P.underlying b with
    | some (.slice _) => true
    | _ => false
  | .fieldAddr .. => false
  | .indexAddr .. => false
  | .call c => match c.callee with
    | .builtin .len => false
    | .builtin .min => false
    | _ => true
  | _ => true

theorem Still.fieldAt (t : TypeId) (hF : fieldOk P t = true) (v : Value) (n : Nat) : Still P (Instr.fieldAt t v n) := by
  have und' : ∀ {β : Type} (f : TypeDesc → Sem β), (∀ d, P.underlying t = some d → Still P (f d)) → Still P (underlying t >>= f) := by
    intro β f h s b s' e
    have e' : ex P ((underlying t).bind f) s = some (b, s') := e
    rw [ex_bind] at e'
    cases hd : P.underlying t with
    | none =>
      have : ex P (underlying t) s = none := by
        unfold underlying
        show ex P (program.bind _) s = none
        rw [ex_bind]
        simp only [program, ex, hd]; rfl
      rw [this] at e'; cases e'
    | some d =>
      have : ex P (underlying t) s = some (d, s) := by
        unfold underlying
        show ex P (program.bind _) s = _
        rw [ex_bind]
        simp only [program, ex, hd]; rfl
      rw [this] at e'
      exact h d hd s b s' e'
  unfold Instr.fieldAt
  refine und' _ fun d hd => ?_
  cases d with
  | struct fields =>
    dsimp only
    cases hf : fields[n]? with
    | none => exact .halt _
    | some f =>
      refine .bind (.sureAddr v) fun a => .bind ?_ fun _ => .pure _
      unfold fieldPlace
      intro s b s' e
      have e' : ex P ((sizeOf f.type).bind _) s = some (b, s') := e
      rw [ex_bind] at e'
      cases h1 : ex P (sizeOf f.type) s with
      | none => rw [h1] at e'; cases e'
      | some p =>
        obtain ⟨m, s1⟩ := p
        rw [h1] at e'
        have hs1 : s1 = s := Still.size f.type s m s1 h1
        subst hs1
        have hm : m ≠ 0 := by
          unfold sizeOf at h1
          have h1' : ex P ((typeInfo f.type).bind _) _ = some (m, _) := h1
          rw [ex_bind] at h1'
          cases h2 : ex P (typeInfo f.type) s1 with
          | none => rw [h2] at h1'; cases h1'
          | some q =>
            obtain ⟨i, s2⟩ := q
            rw [h2] at h1'
            unfold typeInfo at h2
            have h2' : ex P (program.bind _) _ = some (i, s2) := h2
            rw [ex_bind] at h2'
            simp only [program, ex] at h2'
            cases hi : P.info? f.type with
            | none => rw [hi] at h2'; cases h2'
            | some i' =>
              rw [hi] at h2'
              cases h2'
              cases h1'
              exact fieldOk_ne hF hd hf hi
        dsimp only at e'
        rw [if_neg hm] at e'
        exact Still.pure _ _ _ _ e'
  | _ => exact .halt _
theorem Still.indexAt (t : TypeId) (a : Addr) (n c : Nat) (x : Value) : Still P (Instr.indexAt t (.slice (some a) n c) x) := by
  unfold Instr.indexAt
  refine .bind (.asIntOf x) fun ki => ?_
  obtain ⟨k, i⟩ := ki
  refine .bind (.und t) fun d => ?_
  cases d with
  | slice e =>
    refine (show Still P ((underlying t).bind _) from .bind (.und t) fun d => ?_)
    dsimp only
    by_cases hb : 0 ≤ i ∧ i < (n : Int)
    · rw [if_pos hb]
      exact .bind (.size e) fun m => .pure _
    · rw [if_neg hb]
      split
      all_goals
        split
        · exact .halt _
        · exact .dead (dead_bounds _ _ _ _)
  | array l e => exact .dead (Dead.left (.halt _) _)
  | _ => exact .dead (Dead.left (.halt _) _)

theorem valOf_still {x : Sem Value} (h : Still P x) {s s' : St} {r : Nx} (e : valOf (ex P x s) = some (r, s')) : s' = s ∧ ∃ v, r = .val v := by
  cases he : ex P x s with
  | none => rw [he] at e; cases e
  | some p =>
    obtain ⟨v, s1⟩ := p
    rw [he] at e; cases e
    exact ⟨h s v _ he, _, rfl⟩

theorem bin_still {s s' : St} {op : BinOp} {t : TypeId} {x y : Operand} {u v : Value} {r : Nx} (h : binA P s op t x y u v = some (r, s')) : s' = s ∧ ∃ v, r = .val v := by
  have em : ∀ (z : Option Bool) (f : Bool → Bool), z.map (fun b => (Nx.val (.bool (f b)), s)) = some (r, s') → s' = s ∧ ∃ v, r = .val v := by
    intro z f e
    cases z with
    | none => cases e
    | some b => cases e; exact ⟨rfl, _, rfl⟩
  unfold binA at h
  split at h
  · split at h
    · cases h
    · cases h
    · rename_i h1 h2
      rw [orVal_eq fun v e => intX_ex s e] at h
      exact valOf_still (Still.binInt _ _ _ _ _ _ (fun e => h1 e) (fun e => h2 e)) h
  · rw [orVal_eq fun v e => strQ_ex e s] at h
    exact valOf_still (Still.stringOp _ _ _) h
  · rename_i k m q m'
    cases hsy : symA op k m q m' with
    | none => rw [hsy] at h; cases h
    | some v0 => rw [hsy] at h; cases h; exact ⟨rfl, _, rfl⟩
  · split at h
    · cases hc : (isConst x || isConst y) with
      | false => rw [hc] at h; cases h
      | true => rw [hc] at h; exact em _ (fun b => b) h
    · cases hc : (isConst x || isConst y) with
      | false => rw [hc] at h; cases h
      | true => rw [hc] at h; exact em _ (fun b => !b) h
    · cases h
  · split at h
    · exact em _ (fun b => b) h
    · exact em _ (fun b => !b) h
    · cases h

theorem conv_still {a b : TypeId} {x v : Value} {s s1 : St} (hns : ∀ e, P.underlying b ≠ some (.slice e)) (hs : convA P s a b x = some (v, s1)) : s1 = s := by
  unfold convA at hs
  split at hs
  · split at hs <;> first | (cases hs; rfl) | cases hs
  · split at hs
    · cases hs; rfl
    · rename_i d e h1 h2; exact absurd h2 (hns e)
    · cases hs
  · split at hs
    · split at hs <;> first | (cases hs; rfl) | cases hs
    · cases hs
  · rename_i a0 n0 c0
    cases hc0 : Nat.ble c0 unk with
    | false => rw [hc0] at hs; cases hs
    | true =>
    rw [hc0] at hs
    simp only [Bool.not_true, cond_false] at hs
    split at hs
    · split at hs
      · rename_i l he hl
        cases hb : bytesOf l with
        | none => rw [hb] at hs; cases hs
        | some ns => rw [hb] at hs; cases hs; rfl
      · cases hs
    · rename_i d e h1 h2; exact absurd h2 (hns e)
    · cases hs
  · rename_i a0
    split at hs
    · split at hs
      · rename_i c e f i _ _
        cases hg : (!(Nat.beq i.size 0) && Nat.blt a0.off c.toList.length) with
        | false => rw [hg] at hs; cases hs
        | true => rw [hg] at hs; cases hs; rfl
      · cases hs
    · rename_i u _ _
      split at hs
      · rename_i c e f i _ _
        cases hg : (!(Nat.beq i.size 0) && liesAt P P.depth e (c.toList.length / P.cellsOf e) a0.off u 1) with
        | false => rw [hg] at hs; cases hs
        | true => rw [hg] at hs; cases hs; rfl
      · cases hs
    · cases hs
  · cases hs

theorem exOp_still {ev : Operand → Value} {o : Oper} {s s' : St} {r : Nx} (hty : okTy P o.op = true) (ha : isAct P o.op = false) (h : exOp P ev o s = some (r, s')) : s' = s ∧ ∃ v, r = .val v := by
  obtain ⟨dst, op, type, pos, after, guard⟩ := o
  unfold exOp at h
  dsimp only at h ha hty
  cases op with
  | move x => cases h; exact ⟨rfl, _, rfl⟩
  | assign x => cases h; exact ⟨rfl, _, rfl⟩
  | pick c a b =>
    dsimp only at h
    split at h
    · cases h; exact ⟨rfl, _, rfl⟩
    · cases h
  | build t ps =>
    dsimp only at h
    rw [orVal_eq fun v e => buildA_ex (by rw [pairsL_eq]; exact e) s] at h
    exact valOf_still (.build _ _) h
  | load t a =>
    dsimp only at h
    rw [orVal_eq fun v e => loadQ_ex e] at h
    exact valOf_still (.loadAt _ _) h
  | nilCheck x =>
    dsimp only at h
    split at h <;> first | (cases h; exact ⟨rfl, _, rfl⟩) | cases h
  | binOp op t x y yt => exact bin_still h
  | unOp op t x =>
    dsimp only at h
    split at h
    · cases h
    · exact valOf_still (.unary _ _) h
  | makeInterface t x => exact valOf_still (.makeInterface _ _) h
  | makeFunc fn xs ys =>
    cases fn with
    | func g => cases h; exact ⟨rfl, _, rfl⟩
    | _ => cases h
  | slice t x lo hi mx =>
    dsimp only at h
    cases hs : sliceA P t (ev x) (lo.map ev) (hi.map ev) (mx.map ev) with
    | none => rw [hs] at h; cases h
    | some v => rw [hs] at h; cases h; exact ⟨rfl, _, rfl⟩
  | fieldAddr t x n =>
    dsimp only at h
    rw [orVal_eq fun v e => fieldQ_ex e] at h
    exact valOf_still (.fieldAt _ hty _ _) h
  | field t x n =>
    dsimp only at h
    rw [orVal_eq fun v e => partQ_ex e] at h
    exact valOf_still (.field _ _ _) h
  | indexAddr t x ix =>
    dsimp only at h
    split at h
    · rename_i a0 n0 c0 _
      cases hc0 : Nat.ble c0 unk with
      | false => rw [hc0] at h; cases h
      | true => rw [hc0] at h; exact valOf_still (.indexAt _ _ _ _ _) h
    · cases h
  | extract x n => exact valOf_still (.extract _ _) h
  | lookup t x k ok =>
    dsimp only at h
    cases hs : lookupA P s t (ev x) (ev k) ok with
    | none => rw [hs] at h; cases h
    | some v => rw [hs] at h; cases h; exact ⟨rfl, _, rfl⟩
  | convert a b x =>
    dsimp only at h
    cases hs : convA P s a b (ev x) with
    | none => rw [hs] at h; cases h
    | some p =>
      obtain ⟨v, s1⟩ := p
      rw [hs] at h; cases h
      refine ⟨?_, _, rfl⟩
      have hns : ∀ e, P.underlying b ≠ some (.slice e) := fun e hb => by
        unfold isAct at ha
        dsimp only at ha
        rw [hb] at ha; cases ha
      exact conv_still hns hs
  | index t x ix =>
    dsimp only at h
    cases hs : indexA P t (ev x) (ev ix) with
    | none => rw [hs] at h; cases h
    | some v => rw [hs] at h; cases h; exact ⟨rfl, _, rfl⟩
  | typeAssert x xt t ok =>
    dsimp only at h
    cases hs : assertA P (ev x) t ok with
    | none => rw [hs] at h; cases h
    | some v => rw [hs] at h; cases h; exact ⟨rfl, _, rfl⟩
  | call c =>
    dsimp only at h
    unfold callA at h
    unfold isAct at ha
    split at h
    · rename_i hc; dsimp only at ha; rw [hc] at ha; cases ha
    · rename_i hc; dsimp only at ha; rw [hc] at ha; cases ha
    · cases hs : lenA P s c.argTypes (c.args.map ev) with
      | none => rw [hs] at h; cases h
      | some v => rw [hs] at h; cases h; exact ⟨rfl, _, rfl⟩
    · cases hs : minA (c.args.map ev) with
      | none => rw [hs] at h; cases h
      | some v => rw [hs] at h; cases h; exact ⟨rfl, _, rfl⟩
    · rename_i hc; dsimp only at ha; rw [hc] at ha; cases ha
    · rename_i hc; dsimp only at ha; rw [hc] at ha; cases ha
    · rename_i hc; dsimp only at ha; rw [hc] at ha; cases ha
    · rename_i hc; dsimp only at ha; rw [hc] at ha; cases ha
    · rename_i hc; dsimp only at ha; rw [hc] at ha; cases ha
    · cases h
  | _ => cases ha

theorem oper1_still (_hG : Good P) {cl : Cl} {ops : Array Oper} {o : Oper} {f : Fr} {s s' : St} {v : Value} (hty : okTy P o.op = true) (ha : isAct P o.op = false) (h : oper1 P cl ops o f s = some (v, s')) : s' = s := by
  rw [oper1_eq] at h
  cases hw : wants ops f o with
  | false => rw [hw] at h; cases h; rfl
  | true =>
    rw [hw] at h
    simp only [cond_true] at h
    have hy : yieldsTo f.eval o = none := by
      unfold yieldsTo
      split
      · rename_i c hc
        rw [hc] at ha
        split
        · rename_i g hg
          unfold isAct at ha
          simp [hg] at ha
        · rfl
      · rfl
    rw [hy] at h
    dsimp only at h
    cases he : exOp P f.eval o s with
    | none => rw [he] at h; cases h
    | some p =>
      obtain ⟨r, s1⟩ := p
      rw [he] at h
      obtain ⟨rfl, v1, rfl⟩ := exOp_still hty ha he
      cases h; rfl
end
end
end Go.Proofs.YtdcjkglhhmnjiaaGreatDoor.Sx
