/- Texts and bytes, signs of a text, copies, assertions, on memories that are the same but for their blocks' numbers. -/
import Derived.Test.YtdcjkglhhmnjiaaGreatDoorSyG
import Derived.Test.YtdcjkglhhmnjiaaGreatDoorSyH
import Derived.Laws.BytesString
import Derived.Laws.BytesArg
namespace Go.Proofs.YtdcjkglhhmnjiaaGreatDoor.Sx
noncomputable section

/-- bytes, one by one -/
def bytesOf : List Value → Option (List Int)
  | [] => some []
  | .int .u8 n :: l => match bytesOf l with
    | some ns => some (n :: ns)
    | none => none
  | _ => none

def byteV (c : UInt8) : Value := .int .u8 c.toNat

def convA (P : Program) (s : St) (src dst : TypeId) (x : Value) : Option (Value × St) :=
  match x with
  | .int _ n => match P.underlying src, P.underlying dst with
    | some _, some (.int k) => some (.int k (k.wrap n), s)
    | some _, some .string => some (.string (Utf8.encode n), s)
    | _, _ => none
  | .string b => match P.underlying src, P.underlying dst with
    | some _, some .string => some (.string b, s)
    | some _, some (.slice e) => match P.underlying e, P.info? e with
      | some (.int .u8), some i => bif Nat.beq i.size 1 && (Nat.blt s.next most && Nat.ble b.size 1099511627776) then
          some (.slice (some ⟨s.next, 0, none⟩) b.size unk, s.add (.cells (b.data.map byteV) e (1, 0))) else none
      | _, _ => none
    | _, _ => none
  | .slice none 0 _ => match P.underlying src, P.underlying dst with
    | some (.slice e), some .string => match P.underlying e with
      | some (.int .u8) => some (.string .empty, s)
      | _ => none
    | _, _ => none
  | .slice (some a) n c => bif !(Nat.ble c unk) then none else match P.underlying src, P.underlying dst with
    | some (.slice e), some .string => match P.underlying e, readRow s a n with
      | some (.int .u8), some l => (bytesOf l).map fun ns => (.string (strOfNums ns), s)
      | _, _ => none
    | some (.slice _), some (.slice e) => match P.underlying e, s.obj a.block with
      | some (.int .u8), some (.cells cs e2 (f1, 0)) => bif Nat.beq src dst && Nat.ble s.ro a.block && Nat.ble f1 1 then some (.slice (some a) n c, s.put a.block (.cells cs e2 (1, 0))) else none
      | _, _ => none
    | _, _ => none
  | .pointer (some a) => match P.underlying src, P.underlying dst with
    | some (.pointer t), some .unsafePointer => match s.obj a.block, P.info? t with
      | some (.cells c _ _), some i => bif !(Nat.beq i.size 0) && Nat.blt a.off c.toList.length then some (.pointer (some a), s) else none
      | _, _ => none
    | some .unsafePointer, some (.pointer u) => match s.obj a.block, P.info? u with
      | some (.cells c e _), some i => bif !(Nat.beq i.size 0) && liesAt P P.depth e (c.toList.length / P.cellsOf e) a.off u 1 then some (.pointer (some a), s) else none
      | _, _ => none
    | _, _ => none
  | _ => none

def indexA (P : Program) (t : TypeId) (x ix : Value) : Option Value :=
  match P.underlying t, x, ix with
  | some .string, .string b, .int _ (.ofNat i) => match b.data.toList[i]? with
    | some c => some (.int .u8 c.toNat)
    | none => none
  | _, _, _ => none

def assertA (P : Program) (x : Value) (t : TypeId) (ok : Bool) : Option Value :=
  match P.underlying t with
  | some (.interface _) => none
  | some _ => match x with
    | .iface u v => bif Nat.beq u t then some (bif ok then .tuple #[v, .bool true] else v)
      else bif ok then (match P.info? t with
        | some i => match i.zero with
          | some z => some (.tuple #[z, .bool false])
          | none => none
        | none => none) else none
    | .nilIface => bif ok then (match P.info? t with
        | some i => match i.zero with
          | some z => some (.tuple #[z, .bool false])
          | none => none
        | none => none) else none
    | _ => none
  | none => none

section
variable {P : Program} {ρ : Rho} {s : St} {w : World}

theorem bytes_VR : ∀ (l l' : List Value) (ns : List Int), l.length = l'.length → (∀ (j : Nat) (x y : Value), l[j]? = some x → l'[j]? = some y → VR ρ x y) → bytesOf l = some ns → l' = ns.map (Value.int .u8) := by
  intro l
  induction l with
  | nil =>
    intro l' ns hs _ h
    cases h
    cases l' with
    | nil => rfl
    | cons => cases hs
  | cons x l ih =>
    intro l' ns hs hv h
    cases l' with
    | nil => cases hs
    | cons y l' =>
      have h0 := hv 0 x y rfl rfl
      unfold bytesOf at h
      split at h
      · rename_i he; cases he
      · rename_i n l2 he
        cases he
        cases hb : bytesOf l with
        | none => rw [hb] at h; cases h
        | some ns' =>
          rw [hb] at h; cases h
          cases h0
          rw [ih l' ns' (by simpa using hs) (fun j a b ha hb => hv (j + 1) a b (by simpa using ha) (by simpa using hb)) hb]
          rfl
      · cases h

theorem rowAt_mono (fits : TypeId → Bool) : ∀ (d : Nat) (e : TypeId) (count count' off n : Nat), count ≤ count' → rowAt P fits d e count off n = true → rowAt P fits d e count' off n = true := by
  intro d
  cases d with
  | zero => intro e count count' off n _ h; cases h
  | succ d =>
    intro e count count' off n hc h
    unfold rowAt at h ⊢
    dsimp only at h ⊢
    split at h
    · cases h
    · rename_i hs
      rw [if_neg hs]
      simp only [Bool.or_eq_true, Bool.and_eq_true, decide_eq_true_eq] at h ⊢
      rcases h with ⟨⟨h1, h2⟩, h3⟩ | ⟨h1, h2⟩
      · exact .inl ⟨⟨h1, by omega⟩, h3⟩
      · exact .inr ⟨by omega, h2⟩
theorem liesAt_mono : ∀ (d : Nat) (e : TypeId) (count count' off : Nat) (u : TypeId) (n : Nat), count ≤ count' → liesAt P d e count off u n = true → liesAt P d e count' off u n = true := by
  intro d
  induction d with
  | zero => intro e count count' off u n _ h; cases h
  | succ d ih =>
    intro e count count' off u n hc h
    unfold liesAt at h ⊢
    rw [Bool.or_eq_true] at h ⊢
    rcases h with h | h
    · exact .inl (rowAt_mono _ _ _ _ _ _ _ hc h)
    · refine .inr ?_
      split at h
      · exact ih _ _ _ _ _ _ hc h
      · cases h
theorem cells_world (hz : RZ P ρ s w) {a a' : Addr} {c : Array Value} {e : TypeId} {f : Nat × Nat} (ha : AR ρ a a') (ho : s.obj a.block = some (.cells c e f)) :
    ∃ c' f', w.heap[a'.block]? = some (.cells c' e f') ∧ c.size ≤ c'.size ∧ a'.off = a.off ∧ a'.spot = a.spot := by
  cases ha with
  | @mk b d o sp hb =>
    obtain ⟨d', o', g1, g2, g3, g4, g5⟩ := hz.obj _ _ ho
    rw [hb] at g1; cases g1
    cases g3 with
    | @cells _ cs' _ _ f' hff hsz hall => exact ⟨cs', f', g2, hsz, by show ρ.off b + o = o; rw [g5, Nat.zero_add], rfl⟩

theorem conv_run (hz : RZ P ρ s w) (hm : s.next ≤ most) {src dst : TypeId} {x x' r : Value} {s' : St} (hx : VR ρ x x') (h : convA P s src dst x = some (r, s')) :
    ∃ ρ' r' w', (convert src dst x').run P w = .ok r' w' ∧ VR ρ' r r' ∧ ST P ρ s w ρ' s' w' ∧ s'.next ≤ most := by
  unfold convA at h
  split at h
  · rename_i k n
    cases hx
    split at h
    · rename_i d k2 h1 h2
      cases h
      exact ⟨ρ, _, w, by simp [convert, run_underlying h1, run_underlying h2, Conv.intToInt], .int _ _, .refl hz, hm⟩
    · rename_i d h1 h2
      cases h
      exact ⟨ρ, _, w, by simp [convert, run_underlying h1, run_underlying h2, Conv.intToString], .string _, .refl hz, hm⟩
    · cases h
  · rename_i b
    cases hx
    split at h
    · rename_i d h1 h2
      cases h
      exact ⟨ρ, _, w, by simp [convert, run_underlying h1, run_underlying h2], .string _, .refl hz, hm⟩
    · rename_i d e h1 h2
      split at h
      · rename_i i he hi
        cases hG : (Nat.beq i.size 1 && (Nat.blt s.next most && Nat.ble b.size 1099511627776)) with
        | false => rw [hG] at h; cases h
        | true =>
        rw [hG] at h; cases h
        simp only [Bool.and_eq_true] at hG
        have hsz := Nat.eq_of_beq_eq_true hG.1
        have hlt := unblt hG.2.1
        have hbs : b.size ≤ 1099511627776 := Nat.le_of_ble_eq_true hG.2.2
        obtain ⟨cap, hcapd⟩ : ∃ c, c = grownCap w b.size 0 e := ⟨_, rfl⟩
        have hge : b.size ≤ cap := hcapd ▸ grownCap_ge w b.size 0 e
        have hkm : cap ≤ 9223372036854775807 := hcapd ▸ grownCap_le_maxLen w b.size 0 e (by simp only [maxLen]; omega)
        obtain ⟨cs, hcsd⟩ : ∃ c : Array Value, c = b.data.map byteV ++ Array.replicate (cap - b.size) (.int .u8 0) := ⟨_, rfl⟩
        have hcs : cs.size = cap := by
          rw [hcsd]
          have : b.data.size = b.size := rfl
          simp; omega
        have hrun : (convert src dst (.string b)).run P w = .ok (.slice (some ⟨w.heap.size, 0, none⟩) b.size cap) ((w.drew.alloc (.cells cs e)).freeze ⟨w.heap.size, cs.size, none⟩ 1) := by
          have e1 : ∀ (c : Nat), (Array.map (fun b : UInt8 => Value.int .u8 (b.toNat : Int)) b.data) ++ Array.replicate c (Value.int .u8 0) = b.data.map byteV ++ Array.replicate c (Value.int .u8 0) := fun c => rfl
          have hsh : (w.drew.alloc (.cells cs e)).shape? w.heap.size = some (e, cs.size) := by
            have : (w.drew.alloc (.cells cs e)).heap[w.heap.size]? = some (.cells cs e) := by show (w.heap.push _)[w.heap.size]? = _; simp
            unfold World.shape?; rw [this]
          have hn : (newRow e cs).run P w.drew = .ok ⟨w.heap.size, 0, none⟩ (w.drew.alloc (.cells cs e)) := by simp [newRow]; rfl
          have hmk : (markStringish ⟨w.heap.size, 0, none⟩).run P (w.drew.alloc (.cells cs e)) = .ok () ((w.drew.alloc (.cells cs e)).freeze ⟨w.heap.size, cs.size, none⟩ 1) := by
            simp [markStringish, hsh]
          have hch : (choose (.appendCap b.size 0 e)).run P w = .ok cap w.drew := by rw [hcapd]; simp [Question.forced]; rfl
          simp only [convert, Sem.run_bind, run_underlying h1, run_underlying h2, Result.andThen_ok, run_underlying he, Conv.stringToBytes, hch]
          rw [e1, ← hcsd]
          simp only [hn, Result.andThen_ok, hmk, Sem.run_pure]
        obtain ⟨ρ', k1, k2, k3⟩ := ST.add (o := .cells (b.data.map byteV) e (1, 0)) (o' := .cells cs e (cs.size, cs.size + 1)) (k := cap) (w' := (w.drew.alloc (.cells cs e)).freeze ⟨w.heap.size, cs.size, none⟩ 1) hz hlt
          (.cells e _ _ (.inr ⟨rfl, rfl⟩) (by rw [hcs]; simp; exact hge) fun i u v hu hv => by
            have hi' : i < (b.data.map byteV).size := (Array.getElem?_eq_some_iff.1 hu).1
            rw [hcsd, Array.getElem?_append_left hi'] at hv
            rw [hu] at hv; cases hv
            simp at hu
            obtain ⟨c, _, rfl⟩ := hu
            exact .int _ _)
          (fun c2 e2 f2 h => by cases h; rw [hcs]; simp [cellsOf, hi, hsz]) (by
            unfold World.freeze
            rw [if_neg (by decide)]
            dsimp only [World.alloc, World.drew]
            apply Array.ext
            · simp
            · intro j h1 h2
              rw [Array.getElem_modify]
              by_cases ej : w.heap.size = j
              · subst ej; simp
              · rw [if_neg ej]
                simp at h1
                have hj : j < w.heap.size := by omega
                rw [Array.getElem_push_lt hj, Array.getElem_push_lt hj]) rfl rfl rfl
        exact ⟨ρ', _, _, hrun, .slice _ _ _ (mk0 k1) (.inr ⟨0, rfl, by decide, by rw [k2]; rfl, hge⟩), k3, hlt⟩
      · cases h
    · cases h
  · rename_i c
    cases hx
    split at h
    · rename_i e h1 h2
      split at h
      · rename_i he
        cases h
        exact ⟨ρ, _, w, run_convert_bytes_nil w src e h1 he 0 c dst h2, .string _, .refl hz, hm⟩
      · cases h
    · cases h
  · rename_i a n c
    cases hx with
    | void a a' c' => have h : none = some (r, s') := h; cases h
    | @slice _ a' _ _ c' ha hc =>
    rw [cap_le hc] at h
    simp only [Bool.not_true, cond_false] at h
    split at h
    · rename_i e h1 h2
      split at h
      · rename_i l he hl
        cases hb : bytesOf l with
        | none => rw [hb] at h; cases h
        | some ns =>
          rw [hb] at h; cases h
          obtain ⟨l', q1, q2, q3, q4⟩ := readRow_run hz ha hl
          have hl' := bytes_VR l l' ns (by omega) q3 hb
          have hsp : a'.spot = none := by
            unfold readRow at hl
            split at hl
            · cases ha with
              | @mk b d o sp hb =>
              dsimp only at hl ⊢
              cases sp with
              | none => rfl
              | some sp => simp at hl
            · cases hl
          obtain ⟨ab, ao, asp⟩ := a'
          dsimp only at hsp
          subst hsp
          refine ⟨ρ, _, w, run_convert_bytes_arg w src e h1 he ab ao n c' ns (by rw [hl'] at q1; simpa using q1) (fun i hi => ?_) dst h2, .string _, .refl hz, hm⟩
          have := q4 i (.int .u8 (ns.getD i 0)) (by rw [hl']; have : i < ns.length := by { rw [hl'] at q1; simp at q1; omega }; simp [List.getD, this])
          have e1 : (⟨ab, ao, none⟩ : Addr).add i = ⟨ab, ao + i, none⟩ := by unfold Addr.add; split <;> simp_all
          rw [e1] at this; exact this
      · cases h
    · rename_i e0 e h1 h2
      split at h
      · rename_i cs e2 f1 he hob
        cases hG : (Nat.beq src dst && Nat.ble s.ro a.block && Nat.ble f1 1) with
        | false => rw [hG] at h; cases h
        | true =>
        rw [hG] at h
        simp only [cond_true, Option.some.injEq, Prod.mk.injEq] at h
        obtain ⟨rfl, rfl⟩ := h
        simp only [Bool.and_eq_true] at hG
        obtain ⟨⟨hG1, hG2⟩, hG3⟩ := hG
        obtain rfl : src = dst := Nat.eq_of_beq_eq_true hG1
        obtain rfl : e0 = e := by rw [h1] at h2; cases h2; rfl
        have ha0 := ha
        cases ha with
        | @mk b d o sp hb =>
        dsimp only at hob hG2
        obtain ⟨d', o', g1, g2, g3, g4, g5⟩ := hz.obj _ _ hob
        rw [hb] at g1; cases g1
        cases g3 with
        | @cells _ cs' _ _ f' hff hsz hall =>
        have hf' : f' = (0, 0) ∨ f' = (cs'.size, cs'.size + 1) := by
          rcases hff with ⟨h, h2⟩ | ⟨_, h⟩
          · left
            have : f1 ≤ 1 := Nat.le_of_ble_eq_true hG3
            rcases Nat.eq_or_lt_of_le this with rfl | hlt
            · exact absurd rfl h2
            · obtain rfl : f1 = 0 := by omega
              exact h
          · exact .inr h
        have hsh : w.shape? d = some (e2, cs'.size) := by unfold World.shape?; rw [g2]
        have hrun : (convert src src (.slice (some ⟨d, ρ.off b + o, sp⟩) n c')).run P w = .ok (.slice (some ⟨d, ρ.off b + o, sp⟩) n c') (w.freeze ⟨d, cs'.size, none⟩ 1) := by
          have hmk : (markStringish ⟨d, ρ.off b + o, sp⟩).run P w = .ok () (w.freeze ⟨d, cs'.size, none⟩ 1) := by
            simp [markStringish, hsh]
          simp only [convert, Sem.run_bind, run_underlying h1, Result.andThen_ok, run_underlying he, beq_self_eq_true, hmk, Sem.run_pure]
        have hT := ST.put (P := P) (ρ := ρ) (w' := w.freeze ⟨d, cs'.size, none⟩ 1) (c := d) (o := .cells cs e2 (1, 0)) (o' := .cells cs' e2 (cs'.size, cs'.size + 1)) hz hm (by simp [hob]) hb (Nat.le_of_ble_eq_true hG2)
          (.cells e2 _ _ (.inr ⟨rfl, rfl⟩) hsz hall)
          (by
            unfold World.freeze
            rw [if_neg (by decide)]
            rcases hf' with rfl | rfl <;> simp [Array.getElem?_modify, g2]) (fun c2 e3 f3 h => by cases h; exact g4 _ _ _ rfl)
          (fun j hj => by
            unfold World.freeze
            rw [if_neg (by decide)]
            simp only [Array.getElem?_modify]
            rw [if_neg (Ne.symm hj)])
          (by unfold World.freeze; rw [if_neg (by decide)]; simp) (by unfold World.freeze; rw [if_neg (by decide)]) (by unfold World.freeze; rw [if_neg (by decide)]) (by unfold World.freeze; rw [if_neg (by decide)])
        exact ⟨ρ, _, _, hrun, .slice _ _ _ ha0 hc, hT, hm⟩
      · cases h
    · cases h
  · rename_i a
    cases hx with
    | @ptr _ a' ha =>
    split at h
    · rename_i t h1 h2
      split at h
      · rename_i c e f i ho hi
        cases hG : (!(Nat.beq i.size 0) && Nat.blt a.off c.toList.length) with
        | false => rw [hG] at h; cases h
        | true =>
          rw [hG] at h; cases h
          simp only [Bool.and_eq_true, Bool.not_eq_true'] at hG
          obtain ⟨c', f', g1, g2, g3, g4⟩ := cells_world hz ha ho
          have hs0 : ¬ i.size = 0 := fun e => by have := hG.1; rw [e] at this; cases this
          have hlt := unblt hG.2
          have hcl : c.toList.length = c.size := Array.length_toList
          have hsh : w.shape? a'.block = some (e, c'.size) := by unfold World.shape?; rw [g1]
          have hlt' : ¬ c'.size ≤ a'.off := by omega
          exact ⟨ρ, _, w, by simp [convert, run_underlying h1, run_underlying h2, Conv.unsafePointer, Conv.seenAt, viewAt, cellsIn, hsh, hlt', sizeOf, typeInfo, hi, hs0], .ptr ha, .refl hz, hm⟩
      · cases h
    · rename_i u h1 h2
      split at h
      · rename_i c e f i ho hi
        cases hG : (!(Nat.beq i.size 0) && liesAt P P.depth e (c.toList.length / P.cellsOf e) a.off u 1) with
        | false => rw [hG] at h; cases h
        | true =>
          rw [hG] at h; cases h
          simp only [Bool.and_eq_true, Bool.not_eq_true'] at hG
          obtain ⟨c', f', g1, g2, g3, g4⟩ := cells_world hz ha ho
          have hs0 : ¬ i.size = 0 := fun e => by have := hG.1; rw [e] at this; cases this
          have hcl : c.toList.length = c.size := Array.length_toList
          have hsh : w.shape? a'.block = some (e, c'.size) := by unfold World.shape?; rw [g1]
          have hlie : liesAt P P.depth e (c'.size / P.cellsOf e) a'.off u 1 = true := by
            rw [g3]; exact liesAt_mono _ _ _ _ _ _ _ (Nat.div_le_div_right (by omega)) hG.2
          exact ⟨ρ, _, w, by simp [convert, run_underlying h1, run_underlying h2, Conv.unsafePointer, Conv.seenAt, viewAt, variablesAt, hsh, hlie, sizeOf, typeInfo, hi, hs0], .ptr ha, .refl hz, hm⟩
      · cases h
    · cases h
  · cases h

theorem index_run {t : TypeId} {x x' ix ix' r : Value} (hx : VR ρ x x') (hi : VR ρ ix ix') (h : indexA P t x ix = some r) : (Instr.index t x' ix').run P w = .ok r w ∧ flat r = true := by
  unfold indexA at h
  split at h
  · rename_i b k i hu
    cases hx; cases hi
    split at h
    · rename_i c hc
      cases h
      refine ⟨?_, rfl⟩
      have hlt : i < b.data.size := by have := (List.getElem?_eq_some_iff.1 hc).1; simpa using this
      have hb : b[i]? = some c := by
        have hlt' : i < b.size := hlt
        rw [getElem?_pos b i hlt']
        have : b.data[i]? = some c := by simpa using hc
        rw [Array.getElem?_eq_getElem hlt] at this
        exact this
      simp [Instr.index, asIntOf, run_underlying hu, hb]
    · cases h
  · cases h

theorem assert_run (hZ : ZeroOk P) {x x' r : Value} {xt t : TypeId} {ok : Bool} (ht : t < P.types.size) (hx : VR ρ x x') (h : assertA P x t ok = some r) : ∃ r', (Instr.typeAssert x' xt t ok).run P w = .ok r' w ∧ VR ρ r r' := by
  unfold assertA at h
  have fail : ∀ (m : Option TypeId), (bif ok then (match P.info? t with | some i => (match i.zero with | some z => some (Value.tuple #[z, .bool false]) | none => none) | none => none) else none) = some r →
      ∃ z i, ok = true ∧ P.info? t = some i ∧ i.zero = some z ∧ r = .tuple #[z, .bool false] ∧ VR ρ z z := by
    intro m h
    cases ok with
    | false => cases h
    | true =>
      simp only [cond_true] at h
      split at h
      · rename_i i hi
        split at h
        · rename_i z hz
          cases h
          obtain ⟨⟨n, hn⟩, _⟩ := hZ t i z ht hi hz
          exact ⟨z, i, rfl, hi, hz, rfl, VR_closed n z hn⟩
        · cases h
      · cases h
  split at h
  · cases h
  · rename_i d hni hu
    split at h
    · rename_i u v
      cases hx with
      | @iface _ _ v' hv =>
      cases hut : Nat.beq u t with
      | true =>
        obtain rfl := Nat.eq_of_beq_eq_true hut
        rw [hut] at h
        simp only [cond_true] at h
        cases h
        cases ok with
        | true =>
          refine ⟨.tuple #[v', .bool true], ?_, ((VsR.one hv).push (.bool _)).toTuple⟩
          cases d <;> first | exact absurd rfl (hni _) | simp [Instr.typeAssert, run_underlying hu]
        | false =>
          refine ⟨v', ?_, hv⟩
          cases d <;> first | exact absurd rfl (hni _) | simp [Instr.typeAssert, run_underlying hu]
      | false =>
        rw [hut] at h
        simp only [cond_false] at h
        have hne : ¬ u = t := fun e => by subst e; simp at hut
        obtain ⟨z, i, rfl, hi, hz, rfl, hvz⟩ := fail none h
        refine ⟨.tuple #[z, .bool false], ?_, ((VsR.one hvz).push (.bool _)).toTuple⟩
        cases d <;> first | exact absurd rfl (hni _) | simp [Instr.typeAssert, run_underlying hu, hne, zeroValue, typeInfo, hi, hz]
    · cases hx
      obtain ⟨z, i, rfl, hi, hz, rfl, hvz⟩ := fail none h
      refine ⟨.tuple #[z, .bool false], ?_, ((VsR.one hvz).push (.bool _)).toTuple⟩
      cases d <;> first | exact absurd rfl (hni _) | simp [Instr.typeAssert, run_underlying hu, zeroValue, typeInfo, hi, hz]
    · cases h
  · cases h
end
end
end Go.Proofs.YtdcjkglhhmnjiaaGreatDoor.Sx
