/- Maps, new rows, lengths, assertions on memories that are the same but for their blocks' numbers. -/
import Derived.Test.YtdcjkglhhmnjiaaGreatDoorSyE
import Derived.DeepKeys3
namespace Go.Proofs.YtdcjkglhhmnjiaaGreatDoor.Sx
noncomputable section
section
variable {P : Program} {ρ : Rho}

theorem SR_askRoom (n : Nat) : SR P (fun _ _ _ => True) ρ (askRoom n) (askRoom n) := by
  unfold askRoom
  split
  · exact .mark _ (.pure trivial)
  · exact .pure trivial

theorem SR_makeMap (t : TypeId) {r r' : Option Value} (h : BR ρ r r') : SR P VR ρ (Instr.makeMap t r) (Instr.makeMap t r') := by
  have fin : ∀ ρ1, ρ.le ρ1 → SR P VR ρ1 (do pure (.map (some (← newObj (.map #[] 0)))) : Sem Value) (do pure (.map (some (← newObj (.map #[] 0)))) : Sem Value) := by
    intro ρ1 _
    exact SR.bind (SR.new (.map 0 rfl (fun i x y h => by simp at h)) fun ρ' b b' hl hb => .pure (R := fun (ρ : Rho) b b' => ρ.at_ b = some b' ∧ ρ.off b = 0) hb) fun ρ' b b' hl hb => .pure (.map hb.1)
  unfold Instr.makeMap
  cases r with
  | none => cases r' with
    | none => exact fin ρ (.refl _)
    | some => exact h.elim
  | some v => cases r' with
    | none => exact h.elim
    | some v' =>
      refine SR.bind (SR_und t) ?_
      rintro ρ1 d _ hl ⟨rfl, _⟩
      cases d with
      | map k e =>
        refine SR.bind (SR_asInt (VR.mono h hl)) ?_
        rintro ρ2 n _ hl2 rfl
        exact fin ρ2 (hl.trans hl2)
      | _ => exact .halt _ _

theorem SR_makeSlice (hz : ZeroOk P) (hE : ElemOk P) (t : TypeId) (ht : t < P.types.size) {v v' : Value} {k : IntKind} {n : Nat} (hn : n < most) (hv : VR ρ v v') : SR P VR ρ (Instr.makeSlice t v (.int k (n : Int))) (Instr.makeSlice t v' (.int k (n : Int))) := by
  unfold Instr.makeSlice
  refine SR.bind (SR_und t) ?_
  rintro ρ1 d _ hl ⟨rfl, hd⟩
  cases d with
  | slice e =>
    refine SR.bind (SR_asInt (hv.mono hl)) ?_
    rintro ρ2 len _ hl2 rfl
    refine SR.bind (.pure (R := fun _ (x y : Int) => x = (n : Int) ∧ y = (n : Int)) ⟨rfl, rfl⟩) ?_
    rintro ρ3 _ _ hl3 ⟨rfl, rfl⟩
    refine SR.bind (SR_info e) ?_
    rintro ρ4 i _ hl4 ⟨rfl, _⟩
    dsimp only
    split
    · split
      · exact .dead (Dead.left (dead_panic _) _) _
      · split
        · exact .dead (Dead.left (dead_panic _) _) _
        · exact .dead (Dead.right fun _ => Dead.left (dead_panic _) _) _
    · refine SR.bind (SR_askRoom _) ?_
      intro ρ5 _ _ hl5 _
      refine SR.bind (SR_size e) ?_
      rintro ρ6 size _ hl6 rfl
      have hw : (IntKind.i64.wrap (n : Int)).toNat = n := by
        have : n < 1099511627776 := hn
        simp [IntKind.wrap, IntKind.bits, IntKind.signed]; omega
      rw [hw]
      split
      · refine SR.bind (R := VsR) (.pure VsR.nil) ?_
        intro ρ7 zs zs' hl7 hzs
        exact SR.bind (SR_newRow e (hzs.zeros _)) fun ρ8 a a' hl8 ha => .pure (.slice _ _ _ ha (.inl ⟨rfl, hn⟩))
      · refine SR.bind (SR_zero hz e (hE.slice t e ht hd)) ?_
        intro ρ7 z z' hl7 hzz
        refine SR.bind (R := VsR) (.pure hzz.cells) ?_
        intro ρ8 zs zs' hl8 hzs
        exact SR.bind (SR_newRow e (hzs.zeros _)) fun ρ9 a a' hl9 ha => .pure (.slice _ _ _ ha (.inl ⟨rfl, hn⟩))
  | _ => exact .halt _ _

/-- rows of entries, one by one -/
def EsR (ρ : Rho) (es es' : Array MapEntry) : Prop := es.size = es'.size ∧ ∀ (i : Nat) (x y : MapEntry), es[i]? = some x → es'[i]? = some y → ER ρ x y

theorem SR_getMap {α β : Type} {R : Rho → α → β → Prop} {r r' : Nat} (h : ρ.at_ r = some r') {f : Obj → Sem α} {g : Obj → Sem β}
    (hf : ∀ es es' n, EsR ρ es es' → SR P R ρ (f (.map es n)) (g (.map es' n))) (hd : ∀ o, (∀ es n, o ≠ .map es n) → Dead P (f o)) : SR P R ρ (getObj r >>= f) (getObj r' >>= g) := by
  refine SR.getObj h fun o o' ho => ?_
  cases ho with
  | map n hs h => exact hf _ _ n ⟨hs, h⟩
  | cells e f => exact .dead (hd _ (fun _ _ h => by cases h)) _
  | stringIter s n => exact .dead (hd _ (fun _ _ h => by cases h)) _
  | loop => exact .dead (hd _ (fun _ _ h => by cases h)) _

theorem findNow_R (kind : TypeDesc) (k : Value) : ∀ (l l' : List MapEntry) (n : Nat), l.length = l'.length → (∀ (i : Nat) (x y : MapEntry), l[i]? = some x → l'[i]? = some y → ER ρ x y) →
    (Instr.findNow kind k l n = none ∧ Instr.findNow kind k l' n = none) ∨ (Instr.findNow kind k l n = some none ∧ Instr.findNow kind k l' n = some none) ∨
    ∃ i v v', Instr.findNow kind k l n = some (some (i, v)) ∧ Instr.findNow kind k l' n = some (some (i, v')) ∧ VR ρ v v' := by
  intro l
  induction l with
  | nil =>
    intro l' n hs _
    cases l' with
    | nil => exact .inr (.inl ⟨rfl, rfl⟩)
    | cons => cases hs
  | cons e l ih =>
    intro l' n hs h
    cases l' with
    | nil => cases hs
    | cons e' l' =>
      have h0 := h 0 e e' rfl rfl
      rw [Instr.findNow, Instr.findNow, h0.key]
      cases Instr.sameNow kind k e.key with
      | none => exact .inl ⟨rfl, rfl⟩
      | some b => cases b with
        | true => exact .inr (.inr ⟨n, e.val, e'.val, rfl, rfl, h0.val⟩)
        | false => exact ih l' (n + 1) (by simpa using hs) fun i x y hx hy => h (i + 1) x y (by simpa using hx) (by simpa using hy)

end

def plainKey : TypeDesc → Bool
  | .int _ => true
  | .string => true
  | .bool => true
  | _ => false

/-- two rows of plain words, seen at once -/
def eqLits : List Lit → List Lit → Option Bool
  | [], [] => some true
  | .string a :: l, .string b :: m => match eqLits l m with
    | some r => some ((a == b) && r)
    | none => none
  | .int j a :: l, .int k b :: m => match eqLits l m with
    | some r => some (decide (j = k) && decide (a = b) && r)
    | none => none
  | .bool a :: l, .bool b :: m => match eqLits l m with
    | some r => some ((a == b) && r)
    | none => none
  | _, _ => none
theorem eqLits_iff : ∀ (l m : List Lit) (r : Bool), eqLits l m = some r → (r = true ↔ l = m) := by
  intro l
  induction l with
  | nil => intro m r h; cases m with
    | nil => cases h; simp
    | cons => cases h
  | cons x l ih =>
    intro m r h
    cases m with
    | nil => cases x <;> cases h
    | cons y m =>
      cases x <;> cases y <;> (first | (cases h; done) | skip) <;>
      · unfold eqLits at h
        cases hr : eqLits l m with
        | none => rw [hr] at h; cases h
        | some r0 =>
          rw [hr] at h
          have := ih m r0 hr
          cases h
          simp [this, and_assoc]

/-- the words of a key that is a struct -/
def structKey (P : Program) (kt : TypeId) (k : Value) : Option (List Lit) :=
  bif P.keyTypeAt 2 kt && k.formed P kt then P.keyLits 2 kt k.cells.toList else none
def flats (v : Value) : Bool := match v with
  | .agg cs => cs.toList.all flat
  | _ => false
theorem flats_eq {ρ : Rho} {v v' : Value} (h : VR ρ v v') (hf : flats v = true) : v' = v := by
  cases h with
  | @agg xs ys hs h =>
    congr 1
    apply Array.ext hs.symm
    intro i h1 h2
    have hx := Array.getElem?_eq_getElem h2
    have hy := Array.getElem?_eq_getElem h1
    exact flat_eq (h i _ _ hx hy) (List.all_eq_true.1 hf _ (Array.mem_toList_iff.2 (Array.mem_of_getElem? hx)))
  | _ => cases hf
def isStruct : TypeDesc → Bool
  | .struct _ => true
  | _ => false
def keyOk (P : Program) (kt : TypeId) (d : TypeDesc) (k : Value) : Bool :=
  (plainKey d && flat k) || (isStruct d && (flats k && (structKey P kt k).isSome))
def findS (P : Program) (kt : TypeId) (L : List Lit) : List MapEntry → Nat → Option (Option (Nat × Value))
  | [], _ => some none
  | e :: es, i => match structKey P kt e.key with
    | some L' => match eqLits L L' with
      | some true => some (some (i, e.val))
      | some false => findS P kt L es (i + 1)
      | none => none
    | none => none
def findX (P : Program) (kt : TypeId) (d : TypeDesc) (k : Value) (es : List MapEntry) : Option (Option (Nat × Value)) :=
  bif isStruct d then (match structKey P kt k with
    | some L => findS P kt L es 0
    | none => none)
  else Instr.findNow d k es 0

/-- the map behind a value, and its entries -/
def entriesA (s : St) : Value → Option (Array MapEntry)
  | .map none => some #[]
  | .map (some r) => match s.obj r with
    | some (.map es _) => some es
    | _ => none
  | _ => none

def lookupA (P : Program) (s : St) (t : TypeId) (x k : Value) (ok : Bool) : Option Value :=
  match P.underlying t with
  | some (.map kt e) => match P.underlying kt, entriesA s x, P.info? e with
    | some d, some es, some i => bif keyOk P kt d k then
        match findX P kt d k es.toList, i.zero with
        | some (some (_, v)), _ => some (bif ok then .tuple #[v, .bool true] else v)
        | some none, some z => some (bif ok then .tuple #[z, .bool false] else z)
        | _, _ => none
      else none
    | _, _, _ => none
  | _ => none

def updateA (P : Program) (s : St) (t : TypeId) (x k v : Value) : Option St :=
  match P.underlying t, x with
  | some (.map kt _), .map (some r) => match P.underlying kt, s.obj r with
    | some d, some (.map es n) => bif keyOk P kt d k && Nat.ble s.ro r then
        match findX P kt d k es.toList with
        | some (some (i, _)) => match es[i]? with
          | some e => bif Instr.sameBits 10000 e.key k then some (s.put r (.map (es.modify i fun e => { e with key := k, val := v }) n)) else none
          | none => none
        | some none => some (s.put r (.map (es.push { key := k, val := v, born := n }) (n + 1)))
        | none => none
      else none
    | _, _ => none
  | _, _ => none

section
variable {P : Program} {ρ : Rho} {s : St} {w : World}

theorem run_checkKey {kt : TypeId} {d : TypeDesc} {k : Value} (n : Nat) (b : Bool) (hu : P.underlying kt = some d) (hd : plainKey d = true) (hk : flat k = true) : (Instr.checkKey b (n + 1) kt k).run P w = .ok () w := by
  cases d <;> first | (cases hd; done) | (cases k <;> first | (cases hk; done) | simp [Instr.checkKey, run_underlying hu])

theorem keyOk_eq {kt : TypeId} {d : TypeDesc} {k k' : Value} (h : keyOk P kt d k = true) (hk : VR ρ k k') : k' = k := by
  unfold keyOk at h
  simp only [Bool.or_eq_true, Bool.and_eq_true] at h
  rcases h with ⟨_, h⟩ | ⟨_, h, _⟩
  · exact flat_eq hk h
  · exact flats_eq hk h
theorem structKey_told {kt : TypeId} {k : Value} {L : List Lit} (h : structKey P kt k = some L) : P.keyTypeAt 2 kt = true ∧ k.formed P kt = true ∧ P.keyLits 2 kt k.cells.toList = some L := by
  unfold structKey at h
  cases hg : (P.keyTypeAt 2 kt && k.formed P kt) with
  | false => rw [hg] at h; cases h
  | true =>
    rw [hg] at h
    simp only [Bool.and_eq_true] at hg
    exact ⟨hg.1, hg.2, h⟩
theorem keyOk_check {kt : TypeId} {d : TypeDesc} {k : Value} (hu : P.underlying kt = some d) (h : keyOk P kt d k = true) (b : Bool) : (Instr.checkKey b 10000 kt k).run P w = .ok () w := by
  unfold keyOk at h
  simp only [Bool.or_eq_true, Bool.and_eq_true] at h
  rcases h with ⟨h1, h2⟩ | ⟨_, _, h3⟩
  · exact run_checkKey 9999 b hu h1 h2
  · obtain ⟨L, hL⟩ := Option.isSome_iff_exists.1 h3
    obtain ⟨k1, k2, k3⟩ := structKey_told hL
    exact run_checkKey_deep b 9998 2 kt k1 w 2 k L k2 k3

theorem findS_R {kt : TypeId} {k : Value} {L : List Lit} (hL : structKey P kt k = some L) : ∀ (l l' : List MapEntry) (n : Nat) (q : Option (Nat × Value)), l.length = l'.length → (∀ (i : Nat) (x y : MapEntry), l[i]? = some x → l'[i]? = some y → ER ρ x y) → findS P kt L l n = some q →
    (q = none ∧ (Instr.findAsking kt k l' n).run P w = .ok none w) ∨ ∃ i v v', q = some (i, v) ∧ (Instr.findAsking kt k l' n).run P w = .ok (some (i, v')) w ∧ VR ρ v v' := by
  intro l
  obtain ⟨k1, k2, k3⟩ := structKey_told hL
  induction l with
  | nil =>
    intro l' n q hs _ h
    cases l' with
    | nil => cases h; exact .inl ⟨rfl, by simp [Instr.findAsking]⟩
    | cons => cases hs
  | cons e l ih =>
    intro l' n q hs hr h
    cases l' with
    | nil => cases hs
    | cons e' l' =>
      have h0 := hr 0 e e' rfl rfl
      unfold findS at h
      split at h
      · rename_i L' hL'
        obtain ⟨_, m2, m3⟩ := structKey_told hL'
        obtain ⟨r, hrun, hiff⟩ := run_equalIn_deep 9998 2 kt k1 w 2 2 k e.key L L' k2 m2 k3 m3
        have hrun' : (Op.equal kt k e'.key).run P w = .ok r w := by rw [h0.key]; exact hrun
        cases he : eqLits L L' with
        | none => rw [he] at h; cases h
        | some r1 =>
          rw [he] at h
          have hi := eqLits_iff L L' r1 he
          have hrr : r = r1 := by rw [Bool.eq_iff_iff]; exact hiff.trans hi.symm
          subst hrr
          cases r with
          | true => cases h; exact .inr ⟨n, e.val, e'.val, rfl, by simp [Instr.findAsking, hrun'], h0.val⟩
          | false =>
            rcases ih l' (n + 1) q (by simpa using hs) (fun i x y hx hy => hr (i + 1) x y (by simpa using hx) (by simpa using hy)) h with ⟨a, b⟩ | ⟨i, v, v', a, b, c⟩
            · exact .inl ⟨a, by simp [Instr.findAsking, hrun', b]⟩
            · exact .inr ⟨i, v, v', a, by simp [Instr.findAsking, hrun', b], c⟩
      · cases h

theorem findX_R {kt : TypeId} {d : TypeDesc} {k : Value} (hu : P.underlying kt = some d) (l l' : List MapEntry) (hs : l.length = l'.length) (hr : ∀ (i : Nat) (x y : MapEntry), l[i]? = some x → l'[i]? = some y → ER ρ x y) :
    findX P kt d k l = none ∨ (findX P kt d k l = some none ∧ (Instr.findKey kt k l').run P w = .ok none w) ∨ ∃ i v v', findX P kt d k l = some (some (i, v)) ∧ (Instr.findKey kt k l').run P w = .ok (some (i, v')) w ∧ VR ρ v v' := by
  unfold findX
  cases hst : isStruct d with
  | false =>
    simp only [cond_false]
    rcases findNow_R (ρ := ρ) d k l l' 0 hs hr with ⟨e1, _⟩ | ⟨e1, e2⟩ | ⟨i, v, v', e1, e2, hv⟩
    · exact .inl e1
    · exact .inr (.inl ⟨e1, by simp [Instr.findKey, run_underlying hu, e2]⟩)
    · exact .inr (.inr ⟨i, v, v', e1, by simp [Instr.findKey, run_underlying hu, e2], hv⟩)
  | true =>
    simp only [cond_true]
    cases hL : structKey P kt k with
    | none => exact .inl rfl
    | some L =>
      dsimp only
      cases hq : findS P kt L l 0 with
      | none => exact .inl rfl
      | some q =>
        have hfk : ∀ r, (Instr.findAsking kt k l' 0).run P w = .ok r w → (Instr.findKey kt k l').run P w = .ok r w := by
          intro r hr
          cases l' with
          | nil => simp [Instr.findAsking] at hr; simp [Instr.findKey, run_underlying hu, Instr.findNow, hr]
          | cons e es =>
            have hn : Instr.findNow d k (e :: es) 0 = none := by
              unfold Instr.findNow
              have : Instr.sameNow d k e.key = none := by cases d <;> first | rfl | cases hst
              rw [this]
            simp [Instr.findKey, run_underlying hu, hn, hr]
        rcases findS_R (w := w) hL l l' 0 q hs hr hq with ⟨a, b⟩ | ⟨i, v, v', a, b, c⟩
        · subst a; exact .inr (.inl ⟨rfl, hfk _ b⟩)
        · subst a; exact .inr (.inr ⟨i, v, v', rfl, hfk _ b, c⟩)

theorem entries_run (hz : RZ P ρ s w) {x x' : Value} {es : Array MapEntry} (hx : VR ρ x x') (h : entriesA s x = some es) :
    (x = .map none ∧ x' = .map none ∧ es = #[]) ∨ ∃ r r' es' n, x = .map (some r) ∧ x' = .map (some r') ∧ ρ.at_ r = some r' ∧ s.obj r = some (.map es n) ∧ w.heap[r']? = some (.map es' n) ∧ EsR ρ es es' := by
  unfold entriesA at h
  split at h
  · cases hx; cases h; exact .inl ⟨rfl, rfl, rfl⟩
  · rename_i r
    cases hx with
    | @map _ r' hr =>
    split at h
    · rename_i es n ho
      cases h
      obtain ⟨c, o', h1, h2, h3, _⟩ := hz.obj _ _ ho
      rw [hr] at h1; cases h1
      cases h3 with
      | @map _ es' _ hs hh => exact .inr ⟨r, r', es', n, rfl, rfl, hr, ho, h2, hs, hh⟩
    · cases h
  · cases h

theorem lookup_run (hZ : ZeroOk P) (hEl : ElemOk P) (hz : RZ P ρ s w) {t : TypeId} (ht : t < P.types.size) {x x' k k' r : Value} {ok : Bool} (hx : VR ρ x x') (hk : VR ρ k k') (h : lookupA P s t x k ok = some r) :
    ∃ r', (Instr.lookup t x' k' ok).run P w = .ok r' w ∧ VR ρ r r' := by
  unfold lookupA at h
  split at h
  · rename_i kt e hu
    split at h
    · rename_i d es i hkt hes hi
      cases hG : keyOk P kt d k with
      | false => rw [hG] at h; cases h
      | true =>
      rw [hG] at h
      simp only [cond_true] at h
      obtain rfl := keyOk_eq hG hk
      have key : ∀ (es' : Array MapEntry), EsR ρ es es' → ∃ r', (do
          Instr.checkKey es'.isEmpty 10000 kt k'
          let (v, ok2) ← match ← Instr.findKey kt k' es'.toList with
            | some (_, v) => pure (v, true)
            | none => pure (← zeroValue e, false)
          pure (if ok then Value.tuple #[v, .bool ok2] else v) : Sem Value).run P w = .ok r' w ∧ VR ρ r r' := by
        intro es' hE
        have hck : ∀ b, (Instr.checkKey b 10000 kt k').run P w = .ok () w := fun b => keyOk_check hkt hG b
        rcases findX_R (ρ := ρ) (w := w) (k := k') hkt es.toList es'.toList (by simpa using hE.1) (fun i x y hx hy => hE.2 i x y (by simpa using hx) (by simpa using hy)) with e1 | ⟨e1, hfn⟩ | ⟨i1, v, v', e1, hfn, hv⟩
        · rw [e1] at h; simp at h
        · rw [e1] at h
          split at h
          · rename_i hh; cases hh
          · rename_i z hh hzz
            cases h
            have hzr : VR ρ z z := by obtain ⟨⟨n, hn⟩, _⟩ := hZ e i z (hEl.map t kt e ht hu).2 hi hzz; exact VR_closed n z hn
            cases ok with
            | true => exact ⟨.tuple #[z, .bool false], by simp [hck, hfn, zeroValue, typeInfo, hi, hzz], ((VsR.one hzr).push (.bool _)).toTuple⟩
            | false => exact ⟨z, by simp [hck, hfn, zeroValue, typeInfo, hi, hzz], hzr⟩
          · cases h
        · rw [e1] at h
          simp only at h
          cases h
          cases ok with
          | true => exact ⟨.tuple #[v', .bool true], by simp [hck, hfn], ((VsR.one hv).push (.bool _)).toTuple⟩
          | false => exact ⟨v', by simp [hck, hfn], hv⟩
      rcases entries_run hz hx hes with ⟨rfl, rfl, rfl⟩ | ⟨q, q', es', n, rfl, rfl, hq, ho, hw, hE⟩
      · obtain ⟨r', h1, h2⟩ := key #[] ⟨rfl, fun i x y h => by simp at h⟩
        exact ⟨r', by simp [Instr.lookup, run_underlying hu] at h1 ⊢; exact h1, h2⟩
      · obtain ⟨r', h1, h2⟩ := key es' hE
        refine ⟨r', ?_, h2⟩
        have hg : (getObj q').run P w = .ok (.map es' n) w := by simp [getObj, Sem.run, hw]
        simp [Instr.lookup, run_underlying hu, hg] at h1 ⊢
        exact h1
    · cases h
  · cases h

theorem update_run (hz : RZ P ρ s w) (hm : s.next ≤ most) {t : TypeId} {x x' k k' v v' : Value} {s' : St} (hx : VR ρ x x') (hk : VR ρ k k') (hv : VR ρ v v') (h : updateA P s t x k v = some s') :
    ∃ w', (Instr.mapUpdate t x' k' v').run P w = .ok () w' ∧ ST P ρ s w ρ s' w' ∧ s'.next ≤ most := by
  unfold updateA at h
  split at h
  · rename_i kt e r hu
    cases hx with
    | @map _ r' hr =>
    split at h
    · rename_i d es n hkt ho
      cases hG : (keyOk P kt d k && Nat.ble s.ro r) with
      | false => rw [hG] at h; cases h
      | true =>
      rw [hG] at h
      simp only [cond_true] at h
      simp only [Bool.and_eq_true, Nat.ble_eq] at hG
      obtain ⟨g1, g3⟩ := hG
      obtain rfl := keyOk_eq g1 hk
      obtain ⟨c, o', h1, h2, h3, _⟩ := hz.obj _ _ ho
      rw [hr] at h1; cases h1
      cases h3 with
      | @map _ es' _ hs hh =>
      have hg : (getObj r').run P w = .ok (.map es' n) w := by simp [getObj, Sem.run, h2]
      have hck : ∀ b, (Instr.checkKey b 10000 kt k').run P w = .ok () w := fun b => keyOk_check hkt g1 b
      have hset : ∀ o, (∀ c e f, o ≠ .cells c e f) → (setObj r' o).run P w = .ok () { w with heap := w.heap.setIfInBounds r' o } := by
        intro o _; simp [setObj, Sem.run, h2]
      have step : ∀ (es1 es1' : Array MapEntry) (n1 : Nat), EsR ρ es1 es1' → ST P ρ s w ρ (s.put r (.map es1 n1)) { w with heap := w.heap.setIfInBounds r' (.map es1' n1) } := by
        intro es1 es1' n1 hE
        have hlt := hz.lt _ _ hr
        exact ST.put (c := r') (o' := .map es1' n1) hz hm (by simp [ho]) hr g3 (.map n1 hE.1 hE.2) (by simp [hlt]) (fun _ _ _ h => by cases h) (fun j hj => by simp [Array.getElem?_setIfInBounds]; intro e; exact absurd e.symm hj) (by simp) rfl rfl rfl
      rcases findX_R (ρ := ρ) (w := w) (k := k') hkt es.toList es'.toList (by simpa using hs) (fun i x y hx hy => hh i x y (by simpa using hx) (by simpa using hy)) with e1 | ⟨e1, hfn⟩ | ⟨i1, v1, v1', e1, hfn, hv1⟩
      · rw [e1] at h; simp at h
      · rw [e1] at h
        simp only at h
        cases h
        refine ⟨_, ?_, step (es.push _) (es'.push ⟨k', v', n⟩) (n + 1) ⟨by simp [hs], fun i a b ha hb => ?_⟩, hm⟩
        · simp [Instr.mapUpdate, run_underlying hu, hg, hck, hfn]
          rw [hset _ (fun _ _ _ h => by cases h)]
        · rw [Array.getElem?_push] at ha hb
          rw [← hs] at hb
          by_cases e : i = es.size
          · rw [if_pos e] at ha hb; cases ha; cases hb; exact ⟨rfl, hv, rfl⟩
          · rw [if_neg e] at ha hb; exact hh i a b ha hb
      · rw [e1] at h
        simp only at h
        split at h
        · rename_i e0 hi
          cases hsb : Instr.sameBits 10000 e0.key k' with
          | false => rw [hsb] at h; cases h
          | true =>
          rw [hsb] at h
          cases h
          have hi' : i1 < es'.size := by rw [← hs]; exact (Array.getElem?_eq_some_iff.1 hi).1
          have hk0 := (hh i1 e0 es'[i1] hi (Array.getElem?_eq_getElem hi')).key
          have hfk : es'[i1].key = e0.key := hk0
          have hks : (Instr.keyThatStays es'[i1].key k').run P w = .ok k' w := by
            rw [hfk]; simp [Instr.keyThatStays, hsb]
          refine ⟨_, ?_, step (es.modify i1 _) (es'.modify i1 fun e => { e with key := k', val := v' }) n ⟨by simp [hs], fun i a b ha hb => ?_⟩, hm⟩
          · simp [Instr.mapUpdate, run_underlying hu, hg, hck, hfn, Array.getElem?_eq_getElem hi', hks]
            rw [hset _ (fun _ _ _ h => by cases h)]
          · rw [Array.getElem?_modify] at ha hb
            by_cases e : i1 = i
            · subst e
              rw [if_pos rfl, hi] at ha; rw [if_pos rfl, Array.getElem?_eq_getElem hi'] at hb
              cases ha; cases hb
              exact ⟨rfl, hv, (hh i1 e0 es'[i1] hi (Array.getElem?_eq_getElem hi')).born⟩
            · rw [if_neg e] at ha hb; exact hh i a b ha hb
        · cases h
    · cases h
  · cases h
end
end
end Go.Proofs.YtdcjkglhhmnjiaaGreatDoor.Sx
