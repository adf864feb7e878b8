/- The model's operations on memories that are the same but for their blocks' numbers. -/
import Derived.Test.YtdcjkglhhmnjiaaGreatDoorSyC
import Derived.Laws.Sem
namespace Go.Proofs.YtdcjkglhhmnjiaaGreatDoor.Sx
noncomputable section
section
variable {P : Program} {ρ : Rho}

theorem SR_alloc (hz : ZeroOk P) (e : TypeId) (he : e < P.types.size) : SR P VR ρ (Instr.alloc e true (.tuple #[])) (Instr.alloc e true (.tuple #[])) := by
  unfold Instr.alloc
  refine SR.bind (SR_zero hz e he) ?_
  intro ρ1 v v' hl hv
  exact SR.bind (SR_newVar e hv) fun ρ2 a a' hl2 ha => .pure (.ptr ha)
theorem SR_box (e : TypeId) {v v' : Value} (hv : VR ρ v v') : SR P VR ρ (Instr.box e v) (Instr.box e v') := by
  unfold Instr.box
  exact SR.bind (SR_newVar e hv) fun ρ2 a a' hl2 ha => .pure (.ptr ha)

/-- parts, one by one -/
def PsR (ρ : Rho) : List (Nat × Value) → List (Nat × Value) → Prop
  | [], [] => True
  | x :: l, y :: m => x.1 = y.1 ∧ VR ρ x.2 y.2 ∧ PsR ρ l m
  | _, _ => False
theorem PsR.mono {σ : Rho} (hl : ρ.le σ) : ∀ {l m : List (Nat × Value)}, PsR ρ l m → PsR σ l m
  | [], [], _ => trivial
  | _ :: _, _ :: _, ⟨a, b, c⟩ => ⟨a, b.mono hl, PsR.mono hl c⟩
  | [], _ :: _, h => h.elim
  | _ :: _, [], h => h.elim

theorem VsR.fold : ∀ (l : List (Value × Nat)) (m : List (Value × Nat)) (off : Nat) {xs ys : Array Value}, VsR ρ xs ys → l.length = m.length →
    (∀ (i : Nat) (a b : Value × Nat), l[i]? = some a → m[i]? = some b → a.2 = b.2 ∧ VR ρ a.1 b.1) →
    VsR ρ (l.foldl (fun cs (x : Value × Nat) => cs.setIfInBounds (off + x.2) x.1) xs) (m.foldl (fun cs (x : Value × Nat) => cs.setIfInBounds (off + x.2) x.1) ys)
  | [], [], _, _, _, h, _, _ => h
  | a :: l, b :: m, off, xs, ys, h, hs, hv => by
    have h0 := hv 0 a b rfl rfl
    rw [List.foldl_cons, List.foldl_cons, h0.1]
    exact VsR.fold l m off (h.set _ h0.2) (by simpa using hs) fun i x y hx hy => hv (i + 1) x y (by simpa using hx) (by simpa using hy)
  | [], _ :: _, _, _, _, _, hs, _ => by cases hs
  | _ :: _, [], _, _, _, _, hs, _ => by cases hs

theorem fillR (place : Nat → Option (Nat × Nat)) : ∀ (l m : List (Nat × Value)) {xs ys : Array Value}, VsR ρ xs ys → PsR ρ l m →
    (Instr.fill place xs l = none ∧ Instr.fill place ys m = none) ∨ ∃ xs' ys', Instr.fill place xs l = some xs' ∧ Instr.fill place ys m = some ys' ∧ VsR ρ xs' ys'
  | [], [], xs, ys, h, _ => .inr ⟨xs, ys, rfl, rfl, h⟩
  | x :: l, y :: m, xs, ys, h, ⟨h1, h2, h3⟩ => by
    obtain ⟨i, v⟩ := x
    obtain ⟨j, v'⟩ := y
    obtain rfl : i = j := h1
    rw [Instr.fill, Instr.fill]
    cases place i with
    | none => exact .inl ⟨rfl, rfl⟩
    | some p =>
      obtain ⟨off, size⟩ := p
      have hc := VR.cells h2
      dsimp only
      dsimp only at hc
      rw [← hc.1, ← h.1]
      by_cases e : (v.cells.size ≠ size || off + v.cells.size > xs.size) = true
      · rw [if_pos e, if_pos e]; exact .inl ⟨rfl, rfl⟩
      · rw [if_neg e, if_neg e]
        refine fillR place l m ?_ h3
        have := VsR.fold (ρ := ρ) v.cells.zipIdx.toList v'.cells.zipIdx.toList off h (by simp [hc.1]) fun k a b ha hb => by
          simp at ha hb
          obtain ⟨a', ha', rfl⟩ := ha
          obtain ⟨b', hb', rfl⟩ := hb
          exact ⟨rfl, hc.2 k _ _ ha' hb'⟩
        rw [← Array.foldl_toList, ← Array.foldl_toList]
        exact this
  | [], _ :: _, _, _, _, h => h.elim
  | _ :: _, [], _, _, _, h => h.elim

theorem VsR.zeros {xs ys : Array Value} (h : VsR ρ xs ys) (n : Nat) : VsR ρ ((Array.range n).map (fun i => xs[i % xs.size]!)) ((Array.range n).map (fun i => ys[i % ys.size]!)) := by
  refine ⟨by simp, fun i x y hx hy => ?_⟩
  simp at hx hy
  obtain ⟨i, hi, rfl⟩ := hx
  obtain ⟨j, hj, rfl⟩ := hy
  rw [hi] at hj; cases hj
  rw [← h.1]
  by_cases h0 : xs.size = 0
  · have e1 : xs = #[] := Array.eq_empty_of_size_eq_zero h0
    have e2 : ys = #[] := Array.eq_empty_of_size_eq_zero (h.1 ▸ h0)
    subst e1; subst e2
    simp
    exact VR_closed 1 _ rfl
  · have hlt : i % xs.size < xs.size := Nat.mod_lt _ (by omega)
    have hlt' : i % xs.size < ys.size := h.1 ▸ hlt
    rw [getElem!_pos xs _ hlt, getElem!_pos ys _ hlt']
    exact h.2 _ _ _ (Array.getElem?_eq_getElem hlt) (Array.getElem?_eq_getElem hlt')

theorem SR_mapL {α β : Type} (f : α → Sem β) (hf : ∀ x ρ, SR P (fun _ x y => x = y) ρ (f x) (f x)) : ∀ (l : List α) (ρ : Rho), SR P (fun _ x y => x = y) ρ (l.mapM f) (l.mapM f)
  | [], ρ => by rw [List.mapM_nil]; exact .pure rfl
  | x :: l, ρ => by
    rw [List.mapM_cons]
    refine SR.bind (hf x ρ) ?_
    rintro ρ1 y _ hl rfl
    refine SR.bind (SR_mapL f hf l ρ1) ?_
    rintro ρ2 ys _ hl2 rfl
    exact .pure rfl
theorem SR_mapM {α β : Type} (f : α → Sem β) (hf : ∀ x ρ, SR P (fun _ x y => x = y) ρ (f x) (f x)) (xs : Array α) : SR P (fun _ x y => x = y) ρ (xs.mapM f) (xs.mapM f) := by
  rw [Array.mapM_eq_mapM_toList]
  exact SR.bind (SR_mapL f hf xs.toList ρ) (by rintro ρ1 y _ hl rfl; exact .pure rfl)

/-- no part of a struct is of no size -/
def fieldOk (P : Program) (t : TypeId) : Bool := match P.underlying t with
  | some (.struct fs) => fs.toList.all fun f => match P.info? f.type with
    | some i => !(Nat.beq i.size 0)
    | none => true
  | _ => true
theorem fieldOk_ne {t : TypeId} {fs : Array Field} {n : Nat} {f : Field} {i : TypeInfo} (h : fieldOk P t = true) (hfs : P.underlying t = some (.struct fs)) (hf : fs[n]? = some f) (hi : P.info? f.type = some i) : i.size ≠ 0 := by
  unfold fieldOk at h
  rw [hfs] at h
  have := List.all_eq_true.1 h f (Array.mem_toList_iff.2 (Array.mem_of_getElem? hf))
  rw [hi] at this
  intro e
  dsimp only at this
  rw [e] at this
  cases this

theorem SR_build (hz : ZeroOk P) (t : TypeId) (ht : t < P.types.size) {ps qs : Array (Nat × Value)} (hp : PsR ρ ps.toList qs.toList) : SR P VR ρ (Instr.build t ps) (Instr.build t qs) := by
  unfold Instr.build
  refine SR.bind (SR_zero hz t ht) ?_
  intro ρ1 v v' hl hv
  refine SR.bind (SR_und t) ?_
  rintro ρ2 d _ hl2 ⟨rfl, _⟩
  have hp2 := (hp.mono hl).mono hl2
  have hc := (hv.mono hl2).cells
  cases d with
  | struct fields =>
    refine SR.bind (R := fun _ x y => x = y) (SR_mapM _ (fun f ρ' => SR.bind (SR_size _) (by rintro ρ3 m _ hl3 rfl; exact .pure rfl)) _) ?_
    rintro ρ3 places _ hl3 rfl
    rcases fillR (places[·]?) _ _ (hc.mono hl3) (hp2.mono hl3) with ⟨e, e'⟩ | ⟨xs, ys, e, e', hv⟩
    · rw [e, e']; exact .halt _ _
    · rw [e, e']; exact .pure hv.toAgg
  | array n e =>
    refine SR.bind (SR_size e) ?_
    rintro ρ3 size _ hl3 rfl
    rcases fillR (fun i => some (i * size, size)) _ _ (hc.mono hl3) (hp2.mono hl3) with ⟨e, e'⟩ | ⟨xs, ys, e, e', hv⟩
    · rw [e, e']; exact .halt _ _
    · rw [e, e']; exact .pure hv.toAgg
  | _ => exact .halt _ _

theorem SR_buildSlice (hz : ZeroOk P) (hE : ElemOk P) (t : TypeId) (ht : t < P.types.size) (n : Nat) (hn : n < most) {ps qs : Array (Nat × Value)} (hp : PsR ρ ps.toList qs.toList) : SR P VR ρ (Instr.buildSlice t n ps) (Instr.buildSlice t n qs) := by
  unfold Instr.buildSlice
  refine SR.bind (SR_und t) ?_
  rintro ρ1 d _ hl ⟨rfl, hd⟩
  cases d with
  | slice e =>
    have he := hE.slice t e ht hd
    refine SR.bind (SR_size e) ?_
    rintro ρ2 size _ hl2 rfl
    dsimp only
    by_cases hb : n * size > 2 ^ 24
    · rw [if_pos hb, if_pos hb]; exact .dead (Dead.left (.halt _) _) _
    · rw [if_neg hb, if_neg hb]
      by_cases h0 : n * size = 0
      · rw [if_pos h0, if_pos h0]
        refine SR.bind (R := VsR) (.pure VsR.nil) ?_
        intro ρ3 zs zs' hl3 hzs
        rcases fillR (fun i => some (i * size, size)) _ _ (hzs.zeros (n * size)) (((hp.mono hl).mono hl2).mono hl3) with ⟨e1, e1'⟩ | ⟨xs, ys, e1, e1', hv⟩
        · rw [e1, e1']; exact .halt _ _
        · rw [e1, e1']; exact SR.bind (SR_newRow e hv) fun ρ4 a a' hl4 ha => .pure (.slice _ _ _ ha (.inl ⟨rfl, hn⟩))
      · rw [if_neg h0, if_neg h0]
        refine SR.bind (SR_zero hz e he) ?_
        intro ρ3 z z' hl3 hzz
        refine SR.bind (R := VsR) (.pure hzz.cells) ?_
        intro ρ4 zs zs' hl4 hzs
        rcases fillR (fun i => some (i * size, size)) _ _ (hzs.zeros (n * size)) ((((hp.mono hl).mono hl2).mono hl3).mono hl4) with ⟨e1, e1'⟩ | ⟨xs, ys, e1, e1', hv⟩
        · rw [e1, e1']; exact .halt _ _
        · rw [e1, e1']; exact SR.bind (SR_newRow e hv) fun ρ4 a a' hl4 ha => .pure (.slice _ _ _ ha (.inl ⟨rfl, hn⟩))
  | _ => exact .halt _ _

theorem SR_loadAt (t : TypeId) {v v' : Value} (h : VR ρ v v') : SR P VR ρ (Instr.loadAt t v) (Instr.loadAt t v') := by
  unfold Instr.loadAt
  exact SR.bind (SR_sureAddr h) fun ρ1 a a' hl ha => SR_loadVar t ha
theorem SR_storeAt (t : TypeId) {v v' x x' : Value} (h : VR ρ v v') (hx : VR ρ x x') : SR P (fun _ _ _ => True) ρ (Instr.storeAt t v x) (Instr.storeAt t v' x') := by
  unfold Instr.storeAt
  exact SR.bind (SR_sureAddr h) fun ρ1 a a' hl ha => SR_storeVar t ha (hx.mono hl)

theorem SR_intArith (op : BinOp) (k : IntKind) (x y : Int) : SR P VR ρ (Op.intArith op k x y) (Op.intArith op k x y) := by
  unfold Op.intArith; split <;> first | exact .pure (.int _ _) | exact .halt _ _
theorem SR_intDiv (op : BinOp) (k : IntKind) (x y : Int) : SR P VR ρ (Op.intDiv op k x y) (Op.intDiv op k x y) := by
  unfold Op.intDiv
  split
  · exact SR_panic _ _
  · split <;> first | exact .pure (.int _ _) | exact .halt _ _
theorem SR_intBits (op : BinOp) (k : IntKind) (x y : Int) : SR P VR ρ (Op.intBits op k x y) (Op.intBits op k x y) := by
  unfold Op.intBits; dsimp only; split <;> first | exact .pure (.int _ _) | exact .halt _ _
theorem SR_intCmp (op : BinOp) (x y : Int) : SR P VR ρ (Op.intCmp op x y) (Op.intCmp op x y) := by
  unfold Op.intCmp; split <;> first | exact .pure (.bool _) | exact .halt _ _
theorem SR_stringOp (op : BinOp) (x y : ByteArray) : SR P VR ρ (Op.stringOp op x y) (Op.stringOp op x y) := by
  unfold Op.stringOp; dsimp only
  split
  · split
    · exact .halt _ _
    · exact .pure (.string _)
  all_goals first | exact .pure (.bool _) | exact .halt _ _
theorem SR_unary (op : UnOp) {v v' : Value} (h : VR ρ v v') (hc : ∀ k m q, v ≠ .complex k m q) : SR P VR ρ (Op.unary op v) (Op.unary op v') := by
  unfold Op.unary
  cases h with
  | int k n => cases op with
    | neg => exact SR_intArith _ _ _ _
    | xor => exact SR_intBits _ _ _ _
    | _ => exact .halt _ _
  | bool b => cases op with
    | not => exact .pure (.bool _)
    | _ => exact .halt _ _
  | float k b => cases op with
    | neg => exact .pure (.float _ _)
    | _ => exact .halt _ _
  | sym h => exact absurd rfl (hc _ _ _)
  | ptr h => cases op <;> exact .halt _ _
  | _ => cases op <;> exact .halt _ _

theorem SR_fieldAt (t : TypeId) (hF : fieldOk P t = true) {v v' : Value} (n : Nat) (h : VR ρ v v') : SR P VR ρ (Instr.fieldAt t v n) (Instr.fieldAt t v' n) := by
  unfold Instr.fieldAt
  refine SR.bind (SR_und t) ?_
  rintro ρ1 d _ hl ⟨rfl, hd⟩
  cases d with
  | struct fields =>
    dsimp only
    cases hf : fields[n]? with
    | none => exact .halt _ _
    | some f =>
      refine SR.bind (SR_sureAddr (h.mono hl)) fun ρ2 a a' hl2 ha => ?_
      refine SR.bind (R := AR) ?_ fun ρ3 b b' hl3 hb => .pure (.ptr hb)
      unfold fieldPlace
      refine SR.bind (R := fun _ x y => x = y ∧ x ≠ 0) ?_ ?_
      · unfold sizeOf
        refine SR.bind (SR_info _) ?_
        rintro ρ3 i _ hl3 ⟨rfl, hi⟩
        exact .pure ⟨rfl, fieldOk_ne hF hd hf hi⟩
      · rintro ρ3 m _ hl3 ⟨rfl, e⟩
        rw [if_neg e, if_neg e]; exact .pure ((ha.mono hl3).add _)
  | _ => exact .halt _ _

theorem SR_indexAt (t : TypeId) {a a' : Addr} {x x' : Value} (n c c' : Nat) (h : AR ρ a a') (hx : VR ρ x x') : SR P VR ρ (Instr.indexAt t (.slice (some a) n c) x) (Instr.indexAt t (.slice (some a') n c') x') := by
  unfold Instr.indexAt
  refine SR.bind (SR_asIntOf hx) ?_
  rintro ρ1 ⟨k, i⟩ _ hl rfl
  refine SR.bind (SR_und t) ?_
  rintro ρ2 d _ hl2 ⟨rfl, _⟩
  have h2 := (h.mono hl).mono hl2
  cases d with
  | slice e =>
    refine SR.bind (.pure (R := fun _ (x y : Option Addr × Nat × TypeId) => x = (some a, n, e) ∧ y = (some a', n, e)) ⟨rfl, rfl⟩) ?_
    rintro ρ3 _ _ hl3 ⟨rfl, rfl⟩
    refine SR.bind (SR_und t) ?_
    rintro ρ4 d _ hl4 ⟨rfl, _⟩
    dsimp only
    by_cases hb : 0 ≤ i ∧ i < (n : Int)
    · rw [if_pos hb, if_pos hb]
      refine SR.bind (SR_size e) ?_
      rintro ρ5 m _ hl5 rfl
      exact .pure (.ptr ((((h2.mono hl3).mono hl4).mono hl5).add _))
    · rw [if_neg hb, if_neg hb]
      split
      all_goals
        split
        · exact .halt _ _
        · exact SR_bounds _ _ _ _ _
  | array l e => exact .dead (Dead.left (.halt _) _) _
  | _ => exact .dead (Dead.left (.halt _) _) _

theorem SR_extract {v v' : Value} (n : Nat) (h : VR ρ v v') : SR P VR ρ (Instr.extract v n) (Instr.extract v' n) := by
  unfold Instr.extract
  cases h with
  | @tuple xs ys hs hv =>
    dsimp only
    have hV : VsR ρ xs ys := ⟨hs, hv⟩
    cases e : xs[n]? with
    | none => exact .halt _ _
    | some x => obtain ⟨y, hy, hxy⟩ := hV.get e; rw [hy]; exact .pure hxy
  | _ => exact .halt _ _
theorem SR_field (t : TypeId) {v v' : Value} (n : Nat) (h : VR ρ v v') : SR P VR ρ (Instr.field t v n) (Instr.field t v' n) := by
  unfold Instr.field
  refine SR.bind (SR_und t) ?_
  rintro ρ1 d _ hl ⟨rfl, _⟩
  cases d with
  | struct fields =>
    dsimp only
    cases hf : fields[n]? with
    | none => exact .halt _ _
    | some f => exact SR.bind (SR_asAgg (h.mono hl)) fun ρ2 xs ys hl2 hv => SR_part _ _ hv
  | _ => exact .halt _ _
theorem SR_makeInterface (t : TypeId) {v v' : Value} (h : VR ρ v v') : SR P VR ρ (Instr.makeInterface t v) (Instr.makeInterface t v') := by
  unfold Instr.makeInterface
  refine SR.bind (SR_und t) ?_
  rintro ρ1 d _ hl ⟨rfl, _⟩
  cases d <;> first | exact .halt _ _ | exact .pure (.iface _ (h.mono hl))
theorem SR_intToInt (k : IntKind) (n : Int) : SR P VR ρ (Conv.intToInt k n) (Conv.intToInt k n) := .pure (.int _ _)
end
end
end Go.Proofs.YtdcjkglhhmnjiaaGreatDoor.Sx
