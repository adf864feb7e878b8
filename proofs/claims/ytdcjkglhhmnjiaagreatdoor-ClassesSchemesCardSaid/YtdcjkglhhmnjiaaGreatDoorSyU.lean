/- Quick ways: what the model reckons by rows, reckoned by lists. -/
import Derived.Test.YtdcjkglhhmnjiaaGreatDoorSyT
namespace Go.Proofs.YtdcjkglhhmnjiaaGreatDoor.Sx
noncomputable section

def mapA {α β : Type} (f : α → β) (xs : Array α) : Array β := ⟨xs.toList.map f⟩
theorem mapA_eq {α β : Type} (f : α → β) (xs : Array α) : mapA f xs = xs.map f := by
  apply Array.ext'; simp [mapA]
def joinA {α : Type} (xs ys : Array α) : Array α := ⟨xs.toList ++ ys.toList⟩
theorem joinA_eq {α : Type} (xs ys : Array α) : joinA xs ys = xs ++ ys := by
  apply Array.ext'; simp [joinA]

def cellsL : Value → List Value
  | .agg cs => cs.toList
  | v => [v]
theorem cellsL_eq (v : Value) : cellsL v = v.cells.toList := by cases v <;> rfl
/-- a part put in its place -/
def putL (l : List Value) (off : Nat) (c : List Value) : List Value := l.take off ++ (c ++ l.drop (off + c.length))
def fillA (place : Nat → Option (Nat × Nat)) : List Value → List (Nat × Value) → Option (List Value)
  | l, [] => some l
  | l, (i, v) :: rest => match place i with
    | none => none
    | some (off, size) => bif Nat.beq (cellsL v).length size && Nat.ble (off + size) l.length then fillA place (putL l off (cellsL v)) rest else none

theorem fold_put : ∀ (c : List Value) (k off : Nat) (l : List Value), off + k + c.length ≤ l.length →
    (c.zipIdx k).foldl (fun (cs : Array Value) (x : Value × Nat) => cs.setIfInBounds (off + x.2) x.1) ⟨l⟩ = ⟨putL l (off + k) c⟩ := by
  intro c
  induction c with
  | nil => intro k off l h; simp [putL]
  | cons x c ih =>
    intro k off l h
    rw [List.length_cons] at h
    rw [List.zipIdx_cons, List.foldl_cons]
    have e1 : (Array.mk l).setIfInBounds (off + k) x = ⟨l.set (off + k) x⟩ := by simp
    rw [e1, ih (k + 1) off _ (by simp; omega)]
    congr 1
    apply List.ext_getElem?
    intro i
    simp only [putL, List.getElem?_append, List.getElem?_take, List.getElem?_drop, List.length_take, List.length_set, List.length_cons, List.getElem?_set, List.getElem?_cons]
    have h1 : min (off + (k + 1)) l.length = off + k + 1 := by omega
    have h2 : min (off + k) l.length = off + k := by omega
    rw [h1, h2]
    by_cases a : i < off + k
    · simp [a, show i < off + k + 1 by omega, show i < off + (k + 1) by omega]; omega
    · by_cases b : i = off + k
      · subst b; simp; omega
      · have hn : ¬ i < off + k + 1 := by omega
        simp only [a, hn, if_false]
        have h3 : ¬ i - (off + k) = 0 := by omega
        by_cases d : i - (off + k + 1) < c.length
        · rw [if_pos d, if_pos (by omega), if_neg h3]
          first | rfl | (congr 1; omega)
        · rw [if_neg d, if_neg (by omega)]
          rw [if_neg (by omega)]
          first | rfl | (congr 1; omega)

theorem fillA_fill (place : Nat → Option (Nat × Nat)) : ∀ (ps : List (Nat × Value)) (l l' : List Value), fillA place l ps = some l' → Instr.fill place ⟨l⟩ ps = some ⟨l'⟩ := by
  intro ps
  induction ps with
  | nil => intro l l' h; cases h; rfl
  | cons p ps ih =>
    intro l l' h
    obtain ⟨i, v⟩ := p
    unfold fillA at h
    unfold Instr.fill
    cases hp : place i with
    | none => rw [hp] at h; cases h
    | some q =>
      obtain ⟨off, size⟩ := q
      rw [hp] at h
      dsimp only at h ⊢
      cases hG : (Nat.beq (cellsL v).length size && Nat.ble (off + size) l.length) with
      | false => rw [hG] at h; cases h
      | true =>
        rw [hG] at h
        simp only [cond_true] at h
        simp only [Bool.and_eq_true, Nat.ble_eq] at hG
        have hs := Nat.eq_of_beq_eq_true hG.1
        have hlen : v.cells.size = (cellsL v).length := by rw [cellsL_eq]; simp
        have hc : ¬ ((v.cells.size ≠ size || off + v.cells.size > (Array.mk l).size) = true) := by
          simp [hlen, hs]; omega
        rw [if_neg hc]
        have e1 : v.cells.zipIdx.foldl (fun (cs : Array Value) (x : Value × Nat) => cs.setIfInBounds (off + x.2) x.1) ⟨l⟩ = ⟨putL l off (cellsL v)⟩ := by
          rw [← Array.foldl_toList]
          have := fold_put (cellsL v) 0 off l (by omega)
          rw [Nat.add_zero] at this
          rw [← this, cellsL_eq]
          simp
        have e2 : (v.cells.zipIdx.foldl (fun (cs : Array Value) (x : Value × Nat) => match x with | (c, j) => cs.setIfInBounds (off + j) c) ⟨l⟩) = ⟨putL l off (cellsL v)⟩ := e1
        rw [e2]
        exact ih _ _ h

def placeOf (P : Program) (fs : Array Field) (i : Nat) : Option (Nat × Nat) := match fs.toList[i]? with
  | some f => match P.info? f.type with
    | some j => some (f.offset, j.size)
    | none => none
  | none => none
def fieldsThere (P : Program) (fs : Array Field) : Bool := fs.toList.all fun f => (P.info? f.type).isSome

def buildA (P : Program) (t : TypeId) (ps : List (Nat × Value)) : Option Value :=
  match P.underlying t, P.info? t with
  | some (.struct fs), some i => match i.zero with
    | some z => bif fieldsThere P fs then (match fillA (placeOf P fs) (cellsL z) ps with
      | some l => some (.agg ⟨l⟩)
      | none => none) else none
    | none => none
  | _, _ => none

section
variable {P : Program}
theorem ex_prog (s : St) : ex P program s = some (P, s) := by simp [program, ex]
theorem ex_info {t : TypeId} {i : TypeInfo} (h : P.info? t = some i) (s : St) : ex P (typeInfo t) s = some (i, s) := by
  unfold typeInfo
  show ex P (program.bind _) s = _
  rw [ex_bind, ex_prog]
  simp only [h]; rfl
theorem ex_und {t : TypeId} {d : TypeDesc} (h : P.underlying t = some d) (s : St) : ex P (underlying t) s = some (d, s) := by
  unfold underlying
  show ex P (program.bind _) s = _
  rw [ex_bind, ex_prog]
  simp only [h]; rfl
theorem ex_size {t : TypeId} {i : TypeInfo} (h : P.info? t = some i) (s : St) : ex P (sizeOf t) s = some (i.size, s) := by
  unfold sizeOf
  show ex P ((typeInfo t).bind _) s = _
  rw [ex_bind, ex_info h]; rfl
theorem ex_zero {t : TypeId} {i : TypeInfo} {z : Value} (h : P.info? t = some i) (hz : i.zero = some z) (s : St) : ex P (zeroValue t) s = some (z, s) := by
  unfold zeroValue
  show ex P ((typeInfo t).bind _) s = _
  rw [ex_bind, ex_info h]
  simp only [hz]; rfl
theorem ex_places : ∀ (l : List Field) (s : St), (∀ f ∈ l, (P.info? f.type).isSome) → ex P (l.mapM fun f => do pure (f.offset, ← sizeOf f.type)) s = some (l.map fun f => (f.offset, ((P.info? f.type).map (·.size)).getD 0), s) := by
  intro l
  induction l with
  | nil => intro s _; rw [List.mapM_nil]; rfl
  | cons f l ih =>
    intro s h
    obtain ⟨i, hi⟩ := Option.isSome_iff_exists.1 (h f (by simp))
    rw [List.mapM_cons]
    show ex P (((sizeOf f.type).bind _).bind _) s = _
    rw [ex_bind, ex_bind, ex_size hi]
    show ex P (Sem.bind (l.mapM fun f => do pure (f.offset, ← sizeOf f.type)) _) s = _
    rw [ex_bind, ih s (fun g hg => h g (by simp [hg]))]
    simp [hi]; rfl

theorem buildA_ex {t : TypeId} {ps : Array (Nat × Value)} {v : Value} (h : buildA P t ps.toList = some v) (s : St) : ex P (Instr.build t ps) s = some (v, s) := by
  unfold buildA at h
  split at h
  · rename_i fs i hu hi
    split at h
    · rename_i z hz
      cases hf : fieldsThere P fs with
      | false => rw [hf] at h; cases h
      | true =>
        rw [hf] at h
        simp only [cond_true] at h
        split at h
        · rename_i l hl
          cases h
          have hall : ∀ f ∈ fs.toList, (P.info? f.type).isSome := by
            intro f hfm
            unfold fieldsThere at hf
            exact List.all_eq_true.1 hf f hfm
          unfold Instr.build
          show ex P ((zeroValue t).bind _) s = _
          rw [ex_bind, ex_zero hi hz]
          show ex P ((underlying t).bind _) s = _
          rw [ex_bind, ex_und hu]
          show ex P (Sem.bind (fs.mapM fun f => do pure (f.offset, ← sizeOf f.type)) _) s = _
          rw [ex_bind, Array.mapM_eq_mapM_toList]
          have hmap : ex P (List.toArray <$> fs.toList.mapM fun f => do pure (f.offset, ← sizeOf f.type)) s = some ((fs.toList.map fun f => (f.offset, ((P.info? f.type).map (·.size)).getD 0)).toArray, s) := by
            show ex P (Sem.bind (fs.toList.mapM fun f => do pure (f.offset, ← sizeOf f.type)) _) s = _
            rw [ex_bind, ex_places _ _ hall]; rfl
          rw [hmap]
          dsimp only
          have hpl : (fun x => (fs.toList.map fun f => (f.offset, ((P.info? f.type).map (·.size)).getD 0)).toArray[x]?) = placeOf P fs := by
            funext x
            unfold placeOf
            simp only [List.getElem?_toArray, List.getElem?_map]
            cases hx : fs.toList[x]? with
            | none => rfl
            | some f =>
              obtain ⟨j, hj⟩ := Option.isSome_iff_exists.1 (hall f (List.mem_of_getElem? hx))
              simp [hj]
          have hcz : z.cells = ⟨cellsL z⟩ := by rw [cellsL_eq]
          rw [hpl, hcz, fillA_fill _ _ _ _ hl]
          rfl
        · cases h
    · cases h
  · cases h
end
end
end Go.Proofs.YtdcjkglhhmnjiaaGreatDoor.Sx
