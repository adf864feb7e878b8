/- Quick ways for what is done most often: numbers, texts, one cell read or written, a field's place. -/
import Derived.Test.YtdcjkglhhmnjiaaGreatDoorSyU
import Derived.Laws.Strings
namespace Go.Proofs.YtdcjkglhhmnjiaaGreatDoor.Sx
noncomputable section

def limQ : IntKind → Nat
  | .i64 => 9223372036854775808
  | .u8 => 256
  | _ => 0

def intQ (op : BinOp) (k : IntKind) (a b : Int) : Option Value :=
  match a, b with
  | .ofNat m, .ofNat n => match op with
    | .add => bif Nat.blt (Nat.add m n) (limQ k) then some (.int k (.ofNat (Nat.add m n))) else none
    | .sub => bif Nat.ble n m && Nat.blt m (limQ k) then some (.int k (.ofNat (Nat.sub m n))) else none
    | .eql => some (.bool (Nat.beq m n))
    | .neq => some (.bool (!(Nat.beq m n)))
    | .lss => some (.bool (Nat.blt m n))
    | .leq => some (.bool (Nat.ble m n))
    | .gtr => some (.bool (Nat.blt n m))
    | .geq => some (.bool (Nat.ble n m))
    | _ => none
  | _, _ => none

def sameL : List UInt8 → List UInt8 → Bool
  | [], [] => true
  | a :: l, b :: m => Nat.beq a.toNat b.toNat && sameL l m
  | _, _ => false
theorem sameL_eq : ∀ (l m : List UInt8), sameL l m = (l == m) := by
  intro l
  induction l with
  | nil => intro m; cases m <;> rfl
  | cons a l ih =>
    intro m
    cases m with
    | nil => rfl
    | cons b m =>
      rw [sameL, ih m, List.cons_beq_cons]
      congr 1
      rw [Bool.eq_iff_iff]
      simp only [Nat.beq_eq, beq_iff_eq]
      exact UInt8.toNat_inj

def strQ (op : BinOp) (x y : ByteArray) : Option Value := match op with
  | .eql => some (.bool (sameL x.data.toList y.data.toList))
  | .neq => some (.bool (!(sameL x.data.toList y.data.toList)))
  | _ => none

def aggD : TypeDesc → Bool
  | .struct _ => true
  | .array _ _ => true
  | _ => false

def loadQ (P : Program) (s : St) (t : TypeId) (v : Value) : Option Value := match v with
  | .pointer (some a) => bif a.spot.isSome then none else match s.obj a.block with
    | some (.cells c _ _) => match P.underlying t with
      | some d => bif aggD d then none else c.toList[a.off]?
      | none => none
    | _ => none
  | _ => none

def oneV : Value → Bool
  | .agg _ => false
  | .tuple _ => false
  | _ => true

def storeQ (P : Program) (s : St) (t : TypeId) (v x : Value) : Option St := match v with
  | .pointer (some a) => bif a.spot.isSome || Nat.blt a.block s.ro || !(oneV x) then none else match s.obj a.block, P.info? t with
    | some (.cells c e f), some i => bif Nat.beq i.size 1 && Nat.blt a.off c.toList.length && !(Nat.ble f.1 a.off && Nat.blt a.off f.2) then some (s.put a.block (.cells ⟨c.toList.set a.off x⟩ e f)) else none
    | _, _ => none
  | _ => none

def fieldQ (P : Program) (t : TypeId) (v : Value) (n : Nat) : Option Value := match v with
  | .pointer (some a) => match P.underlying t with
    | some (.struct fs) => match fs.toList[n]? with
      | some f => match P.info? f.type with
        | some i => bif Nat.beq i.size 0 then none else bif Nat.beq f.offset 0 then some (.pointer (some a)) else some (.pointer (some ⟨a.block, Nat.add a.off f.offset, none⟩))
        | none => none
      | none => none
    | _ => none
  | _ => none

def partQ (P : Program) (t : TypeId) (v : Value) (n : Nat) : Option Value := match v with
  | .agg cs => match P.underlying t with
    | some (.struct fs) => match fs.toList[n]? with
      | some f => match P.underlying f.type with
        | some d => bif aggD d then none else cs.toList[f.offset]?
        | none => none
      | none => none
    | _ => none
  | _ => none

/-- where an element of a slice lies -/
def placeQ (P : Program) (t : TypeId) (a : Addr) (n : Nat) (ix : Value) : Option Value := match ix with
  | .int _ (.ofNat i) => match P.underlying t with
    | some (.slice e) => match P.info? e with
      | some f => bif Nat.blt i n then (bif Nat.beq (Nat.mul i f.size) 0 then some (.pointer (some a)) else some (.pointer (some ⟨a.block, Nat.add a.off (Nat.mul i f.size), none⟩))) else none
      | none => none
    | _ => none
  | _ => none

section
variable {P : Program}
theorem placeQ_ex {s : St} {t : TypeId} {a : Addr} {n c : Nat} {ix u : Value} (h : placeQ P t a n ix = some u) : ex P (Instr.indexAt t (.slice (some a) n c) ix) s = some (u, s) := by
  unfold placeQ at h
  split at h
  · rename_i k i
    split at h
    · rename_i e hu
      split at h
      · rename_i f hf
        cases hb : Nat.blt i n with
        | false => rw [hb] at h; cases h
        | true =>
          rw [hb] at h
          simp only [cond_true] at h
          have hlt := unblt hb
          unfold Instr.indexAt
          show ex P ((underlying t).bind _) s = _
          rw [ex_bind, ex_und hu]
          dsimp only
          show ex P ((underlying t).bind _) s = _
          rw [ex_bind, ex_und hu]
          dsimp only
          have h1 : (0 : Int) ≤ Int.ofNat i ∧ Int.ofNat i < (n : Int) := ⟨Int.natCast_nonneg i, by show (i : Int) < n; omega⟩
          rw [if_pos h1]
          show ex P ((sizeOf e).bind _) s = _
          rw [ex_bind, ex_size hf]
          show ex P (pure (Value.pointer (some (a.add (i * f.size))))) s = _
          unfold Addr.add
          cases hz : Nat.beq (Nat.mul i f.size) 0 with
          | true => rw [hz] at h; cases h; have e0 : i * f.size = 0 := Nat.eq_of_beq_eq_true hz; simp only [e0, if_true]; rfl
          | false =>
            rw [hz] at h; cases h
            have e0 : ¬ i * f.size = 0 := fun e => by have : Nat.mul i f.size = 0 := e; rw [this] at hz; cases hz
            simp only [e0, if_false]; rfl
      · cases h
    · cases h
  · cases h
theorem wrap_small {k : IntKind} {n : Nat} (h : n < limQ k) : k.wrap (.ofNat n) = .ofNat n := by
  cases k <;> simp [limQ] at h
  · unfold IntKind.wrap
    have h1 : (Int.ofNat n) % ((2 : Int) ^ IntKind.i64.bits) = (n : Int) := by show (n : Int) % 18446744073709551616 = n; omega
    have h2 : ¬ ((n : Int) ≥ (2 : Int) ^ (IntKind.i64.bits - 1)) := by show ¬ ((n : Int) ≥ 9223372036854775808); omega
    simp only [h1, h2]; simp
  · unfold IntKind.wrap
    have h1 : (Int.ofNat n) % ((2 : Int) ^ IntKind.u8.bits) = (n : Int) := by show (n : Int) % 256 = n; omega
    simp only [h1]; simp [IntKind.signed]

theorem pure_ex {α : Type} {x : Sem α} {a b : α} (h : x = pure a) (e : a = b) (s : St) : ex P x s = some (b, s) := by rw [h, e]; rfl

theorem intQ_ex {op : BinOp} {t : TypeId} {k : IntKind} {a b : Int} {v : Value} (h : intQ op k a b = some v) (s : St) : ex P (binOp op t (.int k a) (.int k b)) s = some (v, s) := by
  unfold intQ at h
  split at h
  · rename_i m n
    have e0 : (Int.ofNat m == Int.ofNat n) = Nat.beq m n := by rw [Bool.eq_iff_iff]; simp; omega
    have cmp : ∀ {x y : Bool}, (x = true ↔ y = true) → Value.bool x = Value.bool y := fun h => by rw [Bool.eq_iff_iff.2 h]
    cases op <;> simp only [reduceCtorEq] at h
    · cases hb : Nat.blt (Nat.add m n) (limQ k) with
      | false => rw [hb] at h; cases h
      | true =>
        rw [hb] at h; cases h
        exact pure_ex (a := .int k (k.wrap (Int.ofNat m + Int.ofNat n))) (by simp [binOp, Op.intArith]) (congrArg _ (wrap_small (n := m + n) (unblt hb))) s
    · cases hb : (Nat.ble n m && Nat.blt m (limQ k)) with
      | false => rw [hb] at h; cases h
      | true =>
        rw [hb] at h; cases h
        simp only [Bool.and_eq_true, Nat.ble_eq] at hb
        have hlt := unblt hb.2
        have e : Int.ofNat m - Int.ofNat n = Int.ofNat (m - n) := by
          show (m : Int) - n = ((m - n : Nat) : Int)
          omega
        exact pure_ex (a := .int k (k.wrap (Int.ofNat m - Int.ofNat n))) (by simp [binOp, Op.intArith]) (congrArg _ (by rw [e]; exact wrap_small (by omega))) s
    · cases h; exact pure_ex (a := .bool (Int.ofNat m == Int.ofNat n)) (by simp [binOp, Op.intCmp]) (congrArg _ e0) s
    · cases h; exact pure_ex (a := .bool (!(Int.ofNat m == Int.ofNat n))) (by simp [binOp, Op.intCmp]; rfl) (congrArg _ (by rw [e0])) s
    · cases h; exact pure_ex (a := .bool (decide (Int.ofNat m < Int.ofNat n))) (by simp [binOp, Op.intCmp]) (cmp (by simp [Nat.blt]; omega)) s
    · cases h; exact pure_ex (a := .bool (decide (Int.ofNat m ≤ Int.ofNat n))) (by simp [binOp, Op.intCmp]) (cmp (by simp)) s
    · cases h; exact pure_ex (a := .bool (decide (Int.ofNat m > Int.ofNat n))) (by simp [binOp, Op.intCmp]) (cmp (by simp [Nat.blt]; omega)) s
    · cases h; exact pure_ex (a := .bool (decide (Int.ofNat m ≥ Int.ofNat n))) (by simp [binOp, Op.intCmp]) (cmp (by simp)) s
  · cases h

theorem strQ_ex {op : BinOp} {x y : ByteArray} {v : Value} (h : strQ op x y = some v) (s : St) : ex P (Op.stringOp op x y) s = some (v, s) := by
  have e : (x.toList == y.toList) = sameL x.data.toList y.data.toList := by
    rw [sameL_eq, ByteArray.toList_eq, ByteArray.toList_eq]
  unfold strQ at h
  split at h
  · cases h; simp only [Op.stringOp, e]; rfl
  · cases h; simp only [Op.stringOp, e]; rfl
  · cases h

theorem ex_agg {t : TypeId} {d : TypeDesc} (h : P.underlying t = some d) (s : St) : ex P (isAgg t) s = some (aggD d, s) := by
  unfold isAgg
  show ex P ((underlying t).bind _) s = _
  rw [ex_bind, ex_und h]
  cases d <;> rfl

theorem loadQ_ex {s : St} {t : TypeId} {v u : Value} (h : loadQ P s t v = some u) : ex P (Instr.loadAt t v) s = some (u, s) := by
  unfold loadQ at h
  split at h
  · rename_i a
    cases hsp : a.spot.isSome with
    | true => rw [hsp] at h; cases h
    | false =>
      rw [hsp] at h
      simp only [cond_false] at h
      split at h
      · rename_i c e f ho
        split at h
        · rename_i d hd
          cases ha : aggD d with
          | true => rw [ha] at h; cases h
          | false =>
            rw [ha] at h
            simp only [cond_false] at h
            unfold Instr.loadAt Instr.sureAddr loadVar
            show ex P ((isAgg t).bind _) s = _
            rw [ex_bind, ex_agg hd, ha]
            simp only [Bool.false_eq_true, if_false, Go.load, ex, ho, hsp, cond_false, h]
        · cases h
      · cases h
  · cases h

theorem storeQ_ex {s s' : St} {t : TypeId} {v x : Value} (h : storeQ P s t v x = some s') : ex P (Instr.storeAt t v x) s = some ((), s') := by
  unfold storeQ at h
  split at h
  · rename_i a
    cases hg : (a.spot.isSome || Nat.blt a.block s.ro || !(oneV x)) with
    | true => rw [hg] at h; cases h
    | false =>
      rw [hg] at h
      simp only [cond_false] at h
      simp only [Bool.or_eq_false_iff, Bool.not_eq_false'] at hg
      obtain ⟨⟨g1, g2⟩, g3⟩ := hg
      split at h
      · rename_i c e f i ho hi
        cases hk : (Nat.beq i.size 1 && Nat.blt a.off c.toList.length && !(Nat.ble f.1 a.off && Nat.blt a.off f.2)) with
        | false => rw [hk] at h; cases h
        | true =>
          rw [hk] at h; cases h
          simp only [Bool.and_eq_true, Bool.not_eq_true'] at hk
          obtain ⟨⟨k1, k2⟩, k3⟩ := hk
          have k1 := Nat.eq_of_beq_eq_true k1
          have hc : x.cells = #[x] := by cases x <;> first | rfl | cases g3
          have ha0 : a.add 0 = a := rfl
          unfold Instr.storeAt Instr.sureAddr storeVar
          show ex P ((sizeOf t).bind _) s = _
          rw [ex_bind, ex_size hi]
          have hne : ¬ ((#[x] : Array Value).size ≠ i.size) := by rw [k1]; simp
          rw [hc]
          show ex P (if (#[x] : Array Value).size ≠ i.size then _ else _) s = _
          rw [if_neg hne]
          simp only [storeCells, ha0]
          show ex P ((Go.store a x).bind fun _ => pure ()) s = _
          rw [ex_bind]
          have : ex P (Go.store a x) s = some ((), s.put a.block (.cells ⟨c.toList.set a.off x⟩ e f)) := by
            unfold Go.store
            cases x <;> first | (cases g3; done) | (simp only [ex, ho, g1, g2, k2, k3]; rfl)
          rw [this]; rfl
      · cases h
  · cases h

theorem fieldQ_ex {s : St} {t : TypeId} {v u : Value} {n : Nat} (h : fieldQ P t v n = some u) : ex P (Instr.fieldAt t v n) s = some (u, s) := by
  unfold fieldQ at h
  split at h
  · rename_i a
    split at h
    · rename_i fs hu
      split at h
      · rename_i f hf
        split at h
        · rename_i i hi
          cases hz : Nat.beq i.size 0 with
          | true => rw [hz] at h; cases h
          | false =>
            rw [hz] at h
            simp only [cond_false] at h
            have hne : ¬ i.size = 0 := fun e => by rw [e] at hz; cases hz
            have hf' : fs[n]? = some f := by simpa using hf
            unfold Instr.fieldAt Instr.sureAddr
            show ex P ((underlying t).bind _) s = _
            rw [ex_bind, ex_und hu]
            simp only [hf']
            show ex P ((fieldPlace a f).bind _) s = _
            have hp : ex P (fieldPlace a f) s = some (a.add f.offset, s) := by
              unfold fieldPlace
              show ex P ((sizeOf f.type).bind _) s = _
              rw [ex_bind, ex_size hi]
              simp only [hne, if_false]; rfl
            rw [ex_bind, hp]
            unfold Addr.add
            cases ho : Nat.beq f.offset 0 with
            | true => rw [ho] at h; cases h; have := Nat.eq_of_beq_eq_true ho; simp only [this, if_true]; rfl
            | false =>
              rw [ho] at h; cases h
              have : ¬ f.offset = 0 := fun e => by rw [e] at ho; cases ho
              simp only [this, if_false]; rfl
        · cases h
      · cases h
    · cases h
  · cases h

theorem partQ_ex {s : St} {t : TypeId} {v u : Value} {n : Nat} (h : partQ P t v n = some u) : ex P (Instr.field t v n) s = some (u, s) := by
  unfold partQ at h
  split at h
  · rename_i cs
    split at h
    · rename_i fs hu
      split at h
      · rename_i f hf
        split at h
        · rename_i d hd
          cases ha : aggD d with
          | true => rw [ha] at h; cases h
          | false =>
            rw [ha] at h
            simp only [cond_false] at h
            have hf' : fs[n]? = some f := by simpa using hf
            have hc' : cs[f.offset]? = some u := by simpa using h
            unfold Instr.field
            show ex P ((underlying t).bind _) s = _
            rw [ex_bind, ex_und hu]
            simp only [hf']
            show ex P ((isAgg f.type).bind _) s = _
            rw [ex_bind, ex_agg hd, ha]
            simp only [Bool.false_eq_true, if_false, hc']; rfl
        · cases h
      · cases h
    · cases h
  · cases h
end
end
end Go.Proofs.YtdcjkglhhmnjiaaGreatDoor.Sx
