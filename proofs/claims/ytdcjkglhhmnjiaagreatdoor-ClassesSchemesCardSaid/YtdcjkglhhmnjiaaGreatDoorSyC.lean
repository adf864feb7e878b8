/- The model's helpers on memories that are the same but for their blocks' numbers. -/
import Derived.Test.YtdcjkglhhmnjiaaGreatDoorSyB
import GoSem.Dispatch
namespace Go.Proofs.YtdcjkglhhmnjiaaGreatDoor.Sx
noncomputable section

/-- no address, no function stands in it -/
def closedV : Nat → Value → Bool
  | 0, _ => false
  | n + 1, v => match v with
    | .bool _ => true
    | .int _ _ => true
    | .float _ _ => true
    | .string _ => true
    | .pointer none => true
    | .slice none _ _ => true
    | .map none => true
    | .chan none => true
    | .nilFunc => true
    | .nilIface => true
    | .iface _ v => closedV n v
    | .agg xs => xs.toList.all (closedV n)
    | .tuple xs => xs.toList.all (closedV n)
    | _ => false

theorem VR_closed {ρ : Rho} : ∀ (n : Nat) (v : Value), closedV n v = true → VR ρ v v := by
  intro n
  induction n with
  | zero => intro v h; cases h
  | succ n ih =>
    intro v h
    have hall : ∀ (xs : Array Value), xs.toList.all (closedV n) = true → ∀ (i : Nat) (x y : Value), xs[i]? = some x → xs[i]? = some y → VR ρ x y := by
      intro xs hx i x y h1 h2
      rw [h1] at h2; cases h2
      refine ih x (List.all_eq_true.1 hx x ?_)
      exact Array.mem_toList_iff.2 (Array.mem_of_getElem? h1)
    cases v with
    | bool b => exact .bool _
    | int k n => exact .int _ _
    | float k n => exact .float _ _
    | complex k m n => simp [closedV] at h
    | string s => exact .string _
    | pointer a => cases a with
      | none => exact .pnil
      | some a => simp [closedV] at h
    | slice a n c => cases a with
      | none => exact .snil _ _
      | some a => simp [closedV] at h
    | map r => cases r with
      | none => exact .mnil
      | some r => simp [closedV] at h
    | chan r => cases r with
      | none => exact .cnil
      | some r => simp [closedV] at h
    | func f x y => simp [closedV] at h
    | nilFunc => exact .nilFunc
    | iface t v => exact .iface t (ih v (by simpa [closedV] using h))
    | nilIface => exact .nilIface
    | agg xs => exact .agg rfl (hall xs (by simpa only [closedV] using h))
    | tuple xs => exact .tuple rfl (hall xs (by simpa only [closedV] using h))

/-- the zero of each type holds no address -/
def ZeroOk (P : Program) : Prop := ∀ t i v, t < P.types.size → P.info? t = some i → i.zero = some v → (∃ n, closedV n v = true) ∧ v.cells.size = i.size

/-- what stands behind a type of the table stands in it -/
structure ElemOk (P : Program) : Prop where
  slice : ∀ t e, t < P.types.size → P.underlying t = some (.slice e) → e < P.types.size
  map : ∀ t k e, t < P.types.size → P.underlying t = some (.map k e) → k < P.types.size ∧ e < P.types.size

section
variable {P : Program} {ρ : Rho}

theorem SR_prog : SR P (fun _ p q => p = P ∧ q = P) ρ program program := .program (.pure ⟨rfl, rfl⟩)
theorem SR_info (t : TypeId) : SR P (fun _ i j => i = j ∧ P.info? t = some i) ρ (typeInfo t) (typeInfo t) := by
  unfold typeInfo
  refine SR.bind SR_prog ?_
  rintro ρ' p q hl ⟨rfl, rfl⟩
  cases h : q.info? t with
  | none => exact .halt _ _
  | some i => exact .pure ⟨rfl, rfl⟩
theorem SR_und (t : TypeId) : SR P (fun _ i j => i = j ∧ P.underlying t = some i) ρ (underlying t) (underlying t) := by
  unfold underlying
  refine SR.bind SR_prog ?_
  rintro ρ' p q hl ⟨rfl, rfl⟩
  cases h : q.underlying t with
  | none => exact .halt _ _
  | some i => exact .pure ⟨rfl, rfl⟩
theorem SR_size (t : TypeId) : SR P (fun _ i j => i = j) ρ (sizeOf t) (sizeOf t) := by
  unfold sizeOf
  refine SR.bind (SR_info t) ?_
  rintro ρ' i j hl ⟨rfl, _⟩
  exact .pure rfl
theorem SR_isAgg (t : TypeId) : SR P (fun _ i j => i = j) ρ (isAgg t) (isAgg t) := by
  unfold isAgg
  refine SR.bind (SR_und t) ?_
  rintro ρ' i j hl ⟨rfl, _⟩
  cases i <;> exact .pure rfl
theorem SR_zero (hz : ZeroOk P) (t : TypeId) (ht : t < P.types.size) : SR P VR ρ (zeroValue t) (zeroValue t) := by
  unfold zeroValue
  refine SR.bind (SR_info t) ?_
  rintro ρ' i j hl ⟨rfl, hi⟩
  cases h : i.zero with
  | none => exact .halt _ _
  | some v => obtain ⟨⟨n, hn⟩, _⟩ := hz t i v ht hi h; exact .pure (VR_closed n v hn)

theorem AR.add {a a' : Addr} (h : AR ρ a a') (n : Nat) : AR ρ (a.add n) (a'.add n) := by
  cases h with
  | @mk b c o s e =>
    unfold Addr.add
    by_cases hn : n = 0
    · simp only [hn, if_true]; exact .mk e
    · simp only [hn, if_false]; rw [Nat.add_assoc]; exact .mk e

theorem VsR.nil : VsR ρ #[] #[] := ⟨rfl, fun i x y h => by simp at h⟩
theorem VsR.push {xs ys : Array Value} {x y : Value} (h : VsR ρ xs ys) (hv : VR ρ x y) : VsR ρ (xs.push x) (ys.push y) := by
  refine ⟨by simp [h.1], fun i a b ha hb => ?_⟩
  rw [Array.getElem?_push] at ha hb
  rw [← h.1] at hb
  by_cases e : i = xs.size
  · rw [if_pos e] at ha hb; cases ha; cases hb; exact hv
  · rw [if_neg e] at ha hb; exact h.2 i a b ha hb
theorem VsR.append {xs ys xs' ys' : Array Value} (h : VsR ρ xs ys) (k : VsR ρ xs' ys') : VsR ρ (xs ++ xs') (ys ++ ys') := by
  refine ⟨by simp [h.1, k.1], fun i a b ha hb => ?_⟩
  rw [Array.getElem?_append] at ha hb
  rw [← h.1] at hb
  by_cases e : i < xs.size
  · rw [if_pos e] at ha hb; exact h.2 i a b ha hb
  · rw [if_neg e] at ha hb; exact k.2 _ a b ha hb
theorem VsR.extract {xs ys : Array Value} (h : VsR ρ xs ys) (m n : Nat) : VsR ρ (xs.extract m n) (ys.extract m n) := by
  refine ⟨by simp [h.1], fun i a b ha hb => ?_⟩
  rw [Array.getElem?_extract] at ha hb
  rw [← h.1] at hb
  split at ha
  · rename_i hi; rw [if_pos hi] at hb; exact h.2 _ a b ha hb
  · cases ha
theorem VsR.one {x y : Value} (hv : VR ρ x y) : VsR ρ #[x] #[y] := VsR.nil.push hv
theorem VsR.refl_closed {xs : Array Value} (h : ∀ x ∈ xs, VR ρ x x) : VsR ρ xs xs := ⟨rfl, fun i a b ha hb => by rw [ha] at hb; cases hb; exact h a (Array.mem_of_getElem? ha)⟩
theorem VsR.get {xs ys : Array Value} (h : VsR ρ xs ys) {i : Nat} {x : Value} (hx : xs[i]? = some x) : ∃ y, ys[i]? = some y ∧ VR ρ x y := by
  have hi : i < ys.size := by rw [← h.1]; exact (Array.getElem?_eq_some_iff.1 hx).1
  exact ⟨ys[i], Array.getElem?_eq_getElem hi, h.2 i _ _ hx (Array.getElem?_eq_getElem hi)⟩
theorem VsR.none {xs ys : Array Value} (h : VsR ρ xs ys) {i : Nat} (hx : xs[i]? = Option.none) : ys[i]? = Option.none := by
  simp at hx ⊢; rw [← h.1]; exact hx
theorem VsR.set {xs ys : Array Value} {x y : Value} (h : VsR ρ xs ys) (n : Nat) (hv : VR ρ x y) : VsR ρ (xs.setIfInBounds n x) (ys.setIfInBounds n y) := by
  refine ⟨by simp [h.1], fun i a b ha hb => ?_⟩
  rw [Array.getElem?_setIfInBounds] at ha hb
  by_cases e : n = i
  · subst e
    rw [if_pos rfl] at ha hb
    rw [← h.1] at hb
    by_cases hn : n < xs.size
    · rw [if_pos hn] at ha hb; cases ha; cases hb; exact hv
    · rw [if_neg hn] at ha; cases ha
  · rw [if_neg e] at ha hb; exact h.2 i a b ha hb
theorem VsR.toAgg {xs ys : Array Value} (h : VsR ρ xs ys) : VR ρ (.agg xs) (.agg ys) := .agg h.1 h.2
theorem VsR.toTuple {xs ys : Array Value} (h : VsR ρ xs ys) : VR ρ (.tuple xs) (.tuple ys) := .tuple h.1 h.2

theorem cap_le {a : Addr} {n c c' : Nat} (hc : (c' = c ∧ c < most) ∨ (∃ j, c = unk - j ∧ j ≤ most ∧ c' + j = ρ.cap a.block ∧ n ≤ c')) : Nat.ble c unk = true := by
  refine Nat.ble_eq_true_of_le ?_
  rcases hc with ⟨_, h⟩ | ⟨j, rfl, _⟩
  · simp only [most, unk] at h ⊢; omega
  · exact Nat.sub_le _ _

theorem VR.cells {v v' : Value} (h : VR ρ v v') : VsR ρ v.cells v'.cells := by
  cases h with
  | agg hs h => exact ⟨hs, h⟩
  | bool => exact .one (.bool _)
  | int => exact .one (.int _ _)
  | float => exact .one (.float _ _)
  | sym h => exact .one (.sym h)
  | string => exact .one (.string _)
  | pnil => exact .one .pnil
  | ptr h => exact .one (.ptr h)
  | snil => exact .one (.snil _ _)
  | slice n c c' h hc => exact .one (.slice n c c' h hc)
  | void a a' c' => exact .one (.void a a' c')
  | mnil => exact .one .mnil
  | map h => exact .one (.map h)
  | cnil => exact .one .cnil
  | func f hx hy h k => exact .one (.func f hx hy h k)
  | yield h => exact .one (.yield h)
  | nilFunc => exact .one .nilFunc
  | iface t h => exact .one (.iface t h)
  | nilIface => exact .one .nilIface
  | tuple hs h => exact .one (.tuple hs h)

theorem SR_load {a a' : Addr} (h : AR ρ a a') : SR P VR ρ (load a) (load a') := .load _ h fun _ _ hv => .pure hv
theorem SR_store {a a' : Addr} {v v' : Value} (h : AR ρ a a') (hv : VR ρ v v') : SR P (fun _ _ _ => True) ρ (store a v) (store a' v') := .store _ h hv (.pure trivial)

theorem SR_loadFrom : ∀ (n : Nat) {ρ : Rho} {a a' : Addr} (i : Nat) {xs ys : Array Value}, AR ρ a a' → VsR ρ xs ys → SR P VsR ρ (loadCellsFrom a i n xs) (loadCellsFrom a' i n ys) := by
  intro n
  induction n with
  | zero => intro ρ a a' i xs ys h hv; exact .pure hv
  | succ n ih =>
    intro ρ a a' i xs ys h hv
    rw [loadCellsFrom, loadCellsFrom]
    refine SR.bind (SR_load (h.add i)) ?_
    intro ρ' v v' hl hv'
    exact ih (i + 1) (h.mono hl) ((hv.mono hl).push hv')
theorem SR_loadCells {a a' : Addr} (n : Nat) (h : AR ρ a a') : SR P VsR ρ (loadCells a n) (loadCells a' n) := SR_loadFrom n 0 h .nil
theorem SR_storeCells : ∀ (l l' : List Value) {ρ : Rho} {a a' : Addr} (i : Nat), AR ρ a a' → l.length = l'.length → (∀ (j : Nat) (x y : Value), l[j]? = some x → l'[j]? = some y → VR ρ x y) → SR P (fun _ _ _ => True) ρ (storeCells a l i) (storeCells a' l' i) := by
  intro l
  induction l with
  | nil =>
    intro l' ρ a a' i h hs hv
    cases l' with
    | nil => exact .pure trivial
    | cons => cases hs
  | cons x l ih =>
    intro l' ρ a a' i h hs hv
    cases l' with
    | nil => cases hs
    | cons y l' =>
      rw [storeCells, storeCells]
      refine SR.bind (SR_store (h.add i) (hv 0 x y rfl rfl)) ?_
      intro ρ' _ _ hl _
      exact ih l' (i + 1) (h.mono hl) (by simpa using hs) fun j a b ha hb => (hv (j + 1) a b (by simpa using ha) (by simpa using hb)).mono hl
theorem SR_storeVs {a a' : Addr} {xs ys : Array Value} (h : AR ρ a a') (hv : VsR ρ xs ys) : SR P (fun _ _ _ => True) ρ (storeCells a xs.toList) (storeCells a' ys.toList) :=
  SR_storeCells _ _ 0 h (by simpa using hv.1) fun j x y hx hy => hv.2 j x y (by simpa using hx) (by simpa using hy)

theorem SR_loadVar (t : TypeId) {a a' : Addr} (h : AR ρ a a') : SR P VR ρ (loadVar t a) (loadVar t a') := by
  unfold loadVar
  refine SR.bind (SR_isAgg t) ?_
  rintro ρ1 b _ hl rfl
  cases b with
  | false => exact SR_load (h.mono hl)
  | true =>
    refine SR.bind (SR_size t) ?_
    rintro ρ2 n _ hl2 rfl
    refine SR.bind (SR_loadCells n ((h.mono hl).mono hl2)) ?_
    intro ρ3 xs ys hl3 hv
    exact .pure hv.toAgg
theorem SR_storeVar (t : TypeId) {a a' : Addr} {v v' : Value} (h : AR ρ a a') (hv : VR ρ v v') : SR P (fun _ _ _ => True) ρ (storeVar t a v) (storeVar t a' v') := by
  unfold storeVar
  refine SR.bind (SR_size t) ?_
  rintro ρ1 n _ hl rfl
  have hc := (hv.mono hl).cells
  rw [← hc.1]
  by_cases e : v.cells.size ≠ n
  · rw [if_pos e, if_pos e]; exact .halt _ _
  · rw [if_neg e, if_neg e]
    exact SR_storeVs (h.mono hl) hc
theorem SR_newRow (e : TypeId) {xs ys : Array Value} (hv : VsR ρ xs ys) : SR P AR ρ (newRow e xs) (newRow e ys) := by
  unfold newRow
  exact SR.bind (SR.new (.cells e _ _ (.inl ⟨rfl, by decide⟩) (Nat.le_of_eq hv.1) hv.2) fun ρ' b b' hl hb => .pure (R := fun (ρ : Rho) b b' => ρ.at_ b = some b' ∧ ρ.off b = 0) hb) fun ρ' b b' hl hb => .pure (by have := AR.mk (ρ := ρ') (o := 0) (s := none) hb.1; rw [hb.2] at this; exact this)
theorem SR_newVar (t : TypeId) {v v' : Value} (hv : VR ρ v v') : SR P AR ρ (newVar t v) (newVar t v') := SR_newRow t hv.cells
theorem SR_part (t : TypeId) {xs ys : Array Value} (n : Nat) (hv : VsR ρ xs ys) : SR P VR ρ (part t xs n) (part t ys n) := by
  unfold part
  refine SR.bind (SR_isAgg t) ?_
  rintro ρ1 b _ hl rfl
  cases b with
  | true =>
    refine SR.bind (SR_size t) ?_
    rintro ρ2 m _ hl2 rfl
    exact .pure (((hv.mono hl).mono hl2).extract _ _).toAgg
  | false =>
    simp only [Bool.false_eq_true, if_false]
    cases h : xs[n]? with
    | none => exact .halt _ _
    | some x =>
      obtain ⟨y, hy, hxy⟩ := (hv.mono hl).get h
      rw [hy]; exact .pure hxy
theorem SR_sureAddr {v v' : Value} (h : VR ρ v v') : SR P AR ρ (Instr.sureAddr v) (Instr.sureAddr v') := by
  cases h <;> first | exact .halt _ _ | exact .pure ‹_›
theorem SR_asAddr {v v' : Value} (h : VR ρ v v') : SR P AR ρ (asAddr v) (asAddr v') := by
  cases h with
  | ptr h => exact .pure h
  | pnil => exact SR.bind SR_prog (by rintro ρ' p q hl ⟨rfl, rfl⟩; exact .halt _ _)
  | _ => exact .halt _ _
theorem SR_asIntOf {v v' : Value} (h : VR ρ v v') : SR P (fun _ x y => x = y) ρ (asIntOf v) (asIntOf v') := by
  cases h <;> first | exact .halt _ _ | exact .pure rfl
theorem SR_asInt {v v' : Value} (h : VR ρ v v') : SR P (fun _ x y => x = y) ρ (asInt v) (asInt v') := by
  unfold asInt
  exact SR.bind (SR_asIntOf h) (by rintro ρ' x _ hl rfl; exact .pure rfl)
theorem SR_asBool {v v' : Value} (h : VR ρ v v') : SR P (fun _ x y => x = y) ρ (asBool v) (asBool v') := by
  cases h <;> first | exact .halt _ _ | exact .pure rfl
theorem SR_asAgg {v v' : Value} (h : VR ρ v v') : SR P VsR ρ (asAgg v) (asAgg v') := by
  cases h <;> first | exact .halt _ _ | exact .pure ⟨‹_›, ‹_›⟩
/-- a panic: nothing is asked -/
theorem dead_panic {α : Type} (e : RuntimeError) : Dead P (runtimePanic e : Sem α) := by
  unfold runtimePanic
  refine Dead.right fun p => ?_
  cases e <;> first
    | exact .halt _
    | exact Dead.right fun _ => Dead.right fun _ => .halt _
    | exact Dead.right fun _ => .halt _
theorem dead_bounds {α : Type} (k : IntKind) (x y : Int) (c : BoundsCode) : Dead P (boundsPanic k x y c : Sem α) := by
  unfold boundsPanic
  dsimp only
  split <;> exact Dead.right fun _ => dead_panic _
theorem SR_panic {α β : Type} {R : Rho → α → β → Prop} (e : RuntimeError) (y : Sem β) : SR P R ρ (runtimePanic e : Sem α) y := .dead (dead_panic e) y
theorem SR_bounds {α β : Type} {R : Rho → α → β → Prop} (k : IntKind) (x y : Int) (c : BoundsCode) (z : Sem β) : SR P R ρ (boundsPanic k x y c : Sem α) z := .dead (dead_bounds k x y c) z
end
end
end Go.Proofs.YtdcjkglhhmnjiaaGreatDoor.Sx
