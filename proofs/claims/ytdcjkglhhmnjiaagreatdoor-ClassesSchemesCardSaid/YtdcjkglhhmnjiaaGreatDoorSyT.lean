/- The least of two numbers, copies, what is struck from a map, methods behind an interface. -/
import Derived.Test.YtdcjkglhhmnjiaaGreatDoorSyS
import Derived.Lib.UnsafeStr
namespace Go.Proofs.YtdcjkglhhmnjiaaGreatDoor.Sx
noncomputable section

def minA (args : Array Value) : Option Value :=
  match args.toList with
  | [.int k a, .int _ b] => some (.int k (if b < a then b else a))
  | _ => none

/-- copy: how many, and the rows -/
def copyA (P : Program) (s : St) (ts : Array TypeId) (args : Array Value) : Option (Value × St) :=
  match ts.toList, args.toList with
  | [t, _], [.slice d n _, .slice f m _] => match P.underlying t with
    | some (.slice e) => match P.info? e with
      | some i =>
        let k := Nat.min m n
        bif Nat.beq k 0 then some (goInt 0, s)
        else match d, f with
          | some d, some f => match ex P (do storeCells d (← loadCells f (k * i.size)).toList) s with
            | some (_, s') => some (goInt k, s')
            | none => none
          | _, _ => none
      | none => none
    | _ => none
  | _, _ => none

/-- bytes, one by one -/
def bytes8 : List Value → Option (List UInt8)
  | [] => some []
  | .int .u8 (.ofNat k) :: l => bif Nat.blt k 256 then (match bytes8 l with
    | some m => some (UInt8.ofNat k :: m)
    | none => none) else none
  | _ => none
def sliceDataA (args : Array Value) : Option Value := match args.toList with
  | [.slice none _ _] => some (.pointer none)
  | [.slice (some a) n c] => bif Nat.blt 0 n && (Nat.blt 0 c && Nat.ble c unk) then some (.pointer (some a)) else none
  | _ => none
def unsafeStrA (P : Program) (s : St) (ts : Array TypeId) (args : Array Value) : Option (Value × St) :=
  match ts.toList, args.toList with
  | [pt, _], [.pointer p, .int .i64 (.ofNat n)] => bif Nat.beq n 0 then some (.string .empty, s) else
    (match p with
    | none => none
    | some a => match P.underlying pt, s.obj a.block with
      | some (.pointer e), some (.cells c e2 (0, 0)) =>
        bif (Nat.beq e e2 && Nat.beq (P.cellsOf e) 1) && (Nat.beq a.off 0 && a.spot.isNone) && (Nat.ble s.ro a.block && Nat.ble n c.toList.length) && Nat.ble n 1099511627776 then
          match bytes8 (c.toList.take n) with
          | some l => some (.string ⟨l.toArray⟩, s.put a.block (.cells c e2 (0, n)))
          | none => none
        else none
      | _, _ => none)
  | _, _ => none

def deleteA (P : Program) (s : St) (ts : Array TypeId) (args : Array Value) : Option St :=
  match ts.toList, args.toList with
  | [t, _], [.map (some r), k] => match P.underlying t with
    | some (.map kt _) => match P.underlying kt, s.obj r with
      | some d, some (.map es n) => bif keyOk P kt d k && Nat.ble s.ro r then
          match findX P kt d k es.toList with
          | some (some (i, _)) => some (s.put r (.map (es.eraseIdxIfInBounds i) n))
          | some none => some (s.put r (.map es n))
          | none => none
        else none
      | _, _ => none
    | _ => none
  | _, _ => none

/-- whose method it is, and the receiver -/
def methodA (P : Program) (x : Value) (name : String) : Option (FuncId × Value) :=
  match x with
  | .iface t v => match P.info? t with
    | some i => match i.methods.find? (·.name == name) with
      | some m => match m.path.toList, m.func, P.underlying t with
        | [], some (f, true), some (.pointer _) => some (f, v)
        | _, _, _ => none
      | none => none
    | none => none
  | _ => none

section
variable {P : Program} {ρ : Rho} {s : St} {w : World}

theorem min_run {args args' : Array Value} {ts : Array TypeId} {ty : TypeId} {r : Value} (ha : VsR ρ args args') (h : minA args = some r) : (Builtin.min_ ts ty args').run P w = .ok r w ∧ flat r = true := by
  unfold minA at h
  split at h
  · rename_i k a k' b hl
    cases h
    obtain rfl : args = #[.int k a, .int k' b] := by rw [← Array.toList_inj, hl]
    have hsz : args'.size = 2 := by rw [← ha.1]; rfl
    obtain ⟨x', y', rfl⟩ : ∃ x' y', args' = #[x', y'] := by
      rcases args' with ⟨l⟩
      match l, hsz with
      | [a, b], _ => exact ⟨a, b, rfl⟩
    have hx : VR ρ _ x' := ha.2 0 _ x' rfl rfl
    have hy : VR ρ _ y' := ha.2 1 _ y' rfl rfl
    cases hx; cases hy
    exact ⟨by simp [Builtin.min_, Builtin.min2], rfl⟩
  · cases h

theorem two_args {args args' : Array Value} {x y : Value} (ha : VsR ρ args args') (hl : args.toList = [x, y]) : ∃ x' y', args' = #[x', y'] ∧ VR ρ x x' ∧ VR ρ y y' := by
  obtain rfl : args = #[x, y] := by rw [← Array.toList_inj, hl]
  have hsz : args'.size = 2 := by rw [← ha.1]; rfl
  obtain ⟨x', y', rfl⟩ : ∃ x' y', args' = #[x', y'] := by
    rcases args' with ⟨l⟩
    match l, hsz with
    | [a, b], _ => exact ⟨a, b, rfl⟩
  exact ⟨x', y', rfl, ha.2 0 _ x' rfl rfl, ha.2 1 _ y' rfl rfl⟩

theorem copy_run (hz : RZ P ρ s w) (hm : s.next ≤ most) {args args' : Array Value} {ts : Array TypeId} (ty : TypeId) {r : Value} {s' : St} (ha : VsR ρ args args') (h : copyA P s ts args = some (r, s')) :
    ∃ ρ' w', (Builtin.copy_ ts ty args').run P w = .ok r w' ∧ flat r = true ∧ ST P ρ s w ρ' s' w' ∧ s'.next ≤ most := by
  unfold copyA at h
  split at h
  · rename_i t u d n c f m c2 hts hl
    obtain rfl : ts = #[t, u] := by rw [← Array.toList_inj, hts]
    obtain ⟨x', y', rfl, hx, hy⟩ := two_args ha hl
    split at h
    · rename_i e hu
      split at h
      · rename_i i hi
        dsimp only at h
        obtain ⟨d', cd, rfl⟩ : ∃ d' cd, x' = .slice d' n cd := by cases hx <;> exact ⟨_, _, rfl⟩
        obtain ⟨f', cf, rfl⟩ : ∃ f' cf, y' = .slice f' m cf := by cases hy <;> exact ⟨_, _, rfl⟩
        cases hk : Nat.beq (Nat.min m n) 0 with
        | true =>
          rw [hk] at h; cases h
          have hk0 := Nat.eq_of_beq_eq_true hk
          refine ⟨ρ, w, ?_, rfl, .refl hz, hm⟩
          have hk1 : min m n = 0 := hk0
          cases d' <;> cases f' <;> simp [Builtin.copy_, run_underlying hu, Builtin.lenOf, sizeOf, typeInfo, hi, Builtin.firstCells, loadCells, loadCellsFrom, storeCells, hk1]
        | false =>
          rw [hk] at h
          simp only [cond_false] at h
          split at h
          · rename_i d f
            cases hx with
            | void => rw [show Nat.min m 0 = 0 from Nat.min_zero m] at hk; cases hk
            | @slice _ da _ _ cd hda hcd =>
            cases hy with
            | void => rw [show Nat.min 0 n = 0 from Nat.zero_min n] at hk; cases hk
            | @slice _ fa _ _ cf hfa hcf =>
            cases hex : ex P (do storeCells d (← loadCells f (Nat.min m n * i.size)).toList) s with
            | none => rw [hex] at h; cases h
            | some q =>
              obtain ⟨v, s1⟩ := q
              rw [hex] at h; cases h
              have hR : SR P (fun _ _ _ => True) ρ (do storeCells d (← loadCells f (Nat.min m n * i.size)).toList) (do storeCells da (← loadCells fa (Nat.min m n * i.size)).toList) :=
                SR.bind (SR_loadCells _ hfa) fun ρ1 xs ys hl hv => SR_storeVs (hda.mono hl) hv
              obtain ⟨ρ', v', w', k1, _, k3, k4⟩ := hR.sound s v _ hex w hz hm
              refine ⟨ρ', w', ?_, rfl, k3, k4⟩
              simp only [Sem.run_bind] at k1
              cases hlc : (loadCells fa (Nat.min m n * i.size)).run P w with
              | halt y w1 => rw [hlc] at k1; cases k1
              | ok cs w1 =>
                rw [hlc] at k1
                have k1' : (storeCells da cs.toList).run P w1 = .ok v' w' := k1
                simp [Builtin.copy_, run_underlying hu, Builtin.lenOf, sizeOf, typeInfo, hi, Builtin.firstCells]
                have e1 : min m n = Nat.min m n := rfl
                first
                  | (rw [e1, hlc]; simp [k1'])
                  | (rw [hlc]; simp [k1'])
          · cases h
      · cases h
    · cases h
  · cases h

theorem erase_EsR {es es' : Array MapEntry} (h : EsR ρ es es') (i : Nat) : EsR ρ (es.eraseIdxIfInBounds i) (es'.eraseIdxIfInBounds i) := by
  obtain ⟨l⟩ := es
  obtain ⟨l'⟩ := es'
  have hs : l.length = l'.length := by simpa using h.1
  have hv : ∀ (j : Nat) (x y : MapEntry), l[j]? = some x → l'[j]? = some y → ER ρ x y := fun j x y hx hy => h.2 j x y (by simpa using hx) (by simpa using hy)
  have e1 : ∀ (l : List MapEntry), (Array.mk l).eraseIdxIfInBounds i = ⟨l.eraseIdx i⟩ := by
    intro l
    unfold Array.eraseIdxIfInBounds
    split
    · rw [← Array.toList_inj, Array.toList_eraseIdx]
    · rename_i hlt
      simp at hlt
      rw [List.eraseIdx_of_length_le hlt]
  rw [e1, e1]
  refine ⟨by simp [List.length_eraseIdx, hs], fun j x y hx hy => ?_⟩
  simp at hx hy
  rw [List.getElem?_eraseIdx] at hx hy
  split at hx
  · rename_i hj; rw [if_pos hj] at hy; exact hv j x y hx hy
  · rename_i hj; rw [if_neg hj] at hy; exact hv _ x y hx hy

theorem delete_run (hz : RZ P ρ s w) (hm : s.next ≤ most) {args args' : Array Value} {ts : Array TypeId} (ty : TypeId) {s' : St} (ha : VsR ρ args args') (h : deleteA P s ts args = some s') :
    ∃ w', (Builtin.delete_ ts ty args').run P w = .ok (.tuple #[]) w' ∧ ST P ρ s w ρ s' w' ∧ s'.next ≤ most := by
  unfold deleteA at h
  split at h
  · rename_i t u r k hts hl
    obtain rfl : ts = #[t, u] := by rw [← Array.toList_inj, hts]
    obtain ⟨x', k', rfl, hx, hk⟩ := two_args ha hl
    split at h
    · rename_i kt e hu
      cases hx with
      | @map _ r' hr =>
      split at h
      · rename_i d es n hkt ho
        cases hG : (keyOk P kt d k && Nat.ble s.ro r) with
        | false => rw [hG] at h; cases h
        | true =>
        rw [hG] at h
        simp only [cond_true] at h
        simp only [Bool.and_eq_true, Nat.ble_eq] at hG
        obtain ⟨g1, g3⟩ := hG
        obtain rfl := keyOk_eq g1 hk
        obtain ⟨c, o', h1, h2, h3, _⟩ := hz.obj _ _ ho
        rw [hr] at h1; cases h1
        cases h3 with
        | @map _ es' _ hs hh =>
        have hg : (getObj r').run P w = .ok (.map es' n) w := by simp [getObj, Sem.run, h2]
        have hck : ∀ b, (Instr.checkKey b 10000 kt k').run P w = .ok () w := fun b => keyOk_check hkt g1 b
        have hset : ∀ o, (setObj r' o).run P w = .ok () { w with heap := w.heap.setIfInBounds r' o } := by
          intro o; simp [setObj, Sem.run, h2]
        have step : ∀ (es1 es1' : Array MapEntry), EsR ρ es1 es1' → ST P ρ s w ρ (s.put r (.map es1 n)) { w with heap := w.heap.setIfInBounds r' (.map es1' n) } := by
          intro es1 es1' hE
          have hlt := hz.lt _ _ hr
          exact ST.put (c := r') (o' := .map es1' n) hz hm (by simp [ho]) hr g3 (.map n hE.1 hE.2) (by simp [hlt]) (fun _ _ _ h => by cases h) (fun j hj => by simp [Array.getElem?_setIfInBounds]; intro e; exact absurd e.symm hj) (by simp) rfl rfl rfl
        rcases findX_R (ρ := ρ) (w := w) (k := k') hkt es.toList es'.toList (by simpa using hs) (fun i x y hx hy => hh i x y (by simpa using hx) (by simpa using hy)) with e1 | ⟨e1, hfn⟩ | ⟨i1, v1, v1', e1, hfn, hv1⟩
        · rw [e1] at h; simp at h
        · rw [e1] at h
          simp only at h
          cases h
          refine ⟨_, ?_, step es es' ⟨hs, hh⟩, hm⟩
          simp [Builtin.delete_, run_underlying hu, hg, hck, hfn, hset]
        · rw [e1] at h
          simp only at h
          cases h
          refine ⟨_, ?_, step _ _ (erase_EsR ⟨hs, hh⟩ i1), hm⟩
          simp [Builtin.delete_, run_underlying hu, hg, hck, hfn, hset]
      · cases h
    · cases h
  · cases h

theorem method_run {x x' v : Value} {name : String} {f : FuncId} (hx : VR ρ x x') (h : methodA P x name = some (f, v)) :
    ∃ t v', x' = .iface t v' ∧ VR ρ v v' ∧ ∀ n, (method (n + 1) t v' name).run P w = .ok (f, v') w := by
  unfold methodA at h
  split at h
  · rename_i t v0
    cases hx with
    | @iface _ _ v' hv =>
    split at h
    · rename_i i hi
      split at h
      · rename_i m hmm
        split at h
        · rename_i f0 e hp hf hu
          cases h
          refine ⟨t, v', rfl, hv, fun n => ?_⟩
          simp [method, typeInfo, hi, hmm, hp, follow, hf, receiverAt, run_underlying hu, Place.get]
        · cases h
      · cases h
    · cases h
  · cases h

theorem bytes8_told : ∀ (l : List Value) (m : List UInt8), bytes8 l = some m → l = m.map fun x => Value.int .u8 x.toNat := by
  intro l
  induction l with
  | nil => intro m h; cases h; rfl
  | cons v l ih =>
    intro m h
    unfold bytes8 at h
    split at h
    · rename_i hv; cases hv
    · rename_i k l' hv
      cases hv
      cases hk : Nat.blt k 256 with
      | false => rw [hk] at h; cases h
      | true =>
        rw [hk] at h
        simp only [cond_true] at h
        split at h
        · rename_i m' hm
          cases h
          have hlt := unblt hk
          rw [List.map_cons, ← ih m' hm]
          congr 2
          show Int.ofNat k = (((UInt8.ofNat k).toNat : Nat) : Int)
          rw [UInt8.toNat_ofNat', Nat.mod_eq_of_lt (by simpa using hlt)]; rfl
        · cases h
    · cases h

theorem sliceData_run {ts : Array TypeId} (ty : TypeId) {args args' : Array Value} {r : Value} (ha : VsR ρ args args') (h : sliceDataA args = some r) : ∃ r', (Builtin.unsafeSliceData_ ts ty args').run P w = .ok r' w ∧ VR ρ r r' := by
  unfold sliceDataA at h
  have one : ∀ v, args.toList = [v] → ∃ v', args' = #[v'] ∧ VR ρ v v' := fun v hv => by
    obtain rfl : args = #[v] := by rw [← Array.toList_inj, hv]
    have hsz : args'.size = 1 := by rw [← ha.1]; rfl
    rcases args' with ⟨l⟩
    match l, hsz with
    | [a], _ => exact ⟨a, rfl, ha.2 0 _ a rfl rfl⟩
  split at h
  · rename_i n c hl
    obtain ⟨v', rfl, hv⟩ := one _ hl
    cases h; cases hv
    exact ⟨_, Lib.run_unsafeSliceData_nil w ts ty n c, .pnil⟩
  · rename_i a n c hl
    obtain ⟨v', rfl, hv⟩ := one _ hl
    cases hg : (Nat.blt 0 n && (Nat.blt 0 c && Nat.ble c unk)) with
    | false => rw [hg] at h; cases h
    | true =>
      rw [hg] at h; cases h
      simp only [Bool.and_eq_true] at hg
      obtain ⟨g1, g2, g3⟩ := hg
      have g1 := unblt g1
      have g2 := unblt g2
      cases hv with
      | void => omega
      | @slice _ a' _ _ c' had hc =>
        refine ⟨_, Lib.run_unsafeSliceData_row w ts ty a' n c' ?_, .ptr had⟩
        rcases hc with ⟨rfl, _⟩ | ⟨j, _, _, _, hn⟩ <;> omega
  · cases h

theorem unsafeStr_run (hz : RZ P ρ s w) (hm : s.next ≤ most) {ts : Array TypeId} (ty : TypeId) {args args' : Array Value} {r : Value} {s' : St} (ha : VsR ρ args args') (h : unsafeStrA P s ts args = some (r, s')) :
    ∃ w', (Builtin.unsafeString_ ts ty args').run P w = .ok r w' ∧ flat r = true ∧ ST P ρ s w ρ s' w' ∧ s'.next ≤ most := by
  unfold unsafeStrA at h
  split at h
  · rename_i pt it p n hts hl
    obtain rfl : ts = #[pt, it] := by rw [← Array.toList_inj, hts]
    obtain ⟨x', y', rfl, hx, hy⟩ := two_args ha hl
    cases hy
    cases h0 : Nat.beq n 0 with
    | true =>
      rw [h0] at h; cases h
      obtain rfl : n = 0 := Nat.eq_of_beq_eq_true h0
      have : ∃ q, x' = .pointer q := by cases hx <;> exact ⟨_, rfl⟩
      obtain ⟨q, rfl⟩ := this
      exact ⟨w, Lib.run_unsafeString_none w pt it ty q, rfl, .refl hz, hm⟩
    | false =>
      rw [h0] at h
      simp only [cond_false] at h
      split at h
      · cases h
      · rename_i a
        cases hx with
        | @ptr _ a' had =>
        split at h
        · rename_i e c e2 hp ho
          cases hg : ((Nat.beq e e2 && Nat.beq (P.cellsOf e) 1) && (Nat.beq a.off 0 && a.spot.isNone) && (Nat.ble s.ro a.block && Nat.ble n c.toList.length) && Nat.ble n 1099511627776) with
          | false => rw [hg] at h; cases h
          | true =>
            rw [hg] at h
            simp only [cond_true] at h
            simp only [Bool.and_eq_true, Nat.ble_eq] at hg
            obtain ⟨⟨⟨⟨g1, g2⟩, g3, g4⟩, g5, g6⟩, g7⟩ := hg
            split at h
            · rename_i l hl8
              cases h
              obtain rfl : e = e2 := Nat.eq_of_beq_eq_true g1
              have hb := ex_lt hz hm ho
              cases had with
              | @mk b d o sp hbd =>
              dsimp only at ho g3 g4 g5 hb
              obtain rfl : o = 0 := Nat.eq_of_beq_eq_true g3
              obtain rfl : sp = none := by cases sp with
                | none => rfl
                | some q => cases g4
              obtain ⟨d', o', q1, q2, q3, q4, q5⟩ := hz.obj _ _ ho
              rw [hbd] at q1; cases q1
              cases q3 with
              | @cells _ cs' _ _ f' hff hsz hall =>
              obtain rfl : f' = (0, 0) := by rcases hff with ⟨h, _⟩ | ⟨h, _⟩; exact h; cases h
              have hcl : c.toList.length = c.size := Array.length_toList
              have hl := bytes8_told _ _ hl8
              have hlen : l.length = n := by
                have := congrArg List.length hl
                simp at this; omega
              have hn0 : n ≠ 0 := fun e => by rw [e] at h0; cases h0
              have hrun := Lib.run_unsafeString_row w pt it ty e hp (Nat.eq_of_beq_eq_true g2) d cs'.size (by unfold World.shape?; rw [q2]) l (fun e => hn0 (by rw [← hlen, e]; rfl)) (by omega) (by omega) fun j x hj => by
                have e1 : (⟨d, 0, none⟩ : Addr).add j = ⟨d, j, none⟩ := by unfold Addr.add; split <;> simp_all
                rw [e1, cell_of q2]
                have hc : c[j]? = some (.int .u8 x.toNat) := by
                  have h1 : (c.toList.take n)[j]? = some (.int .u8 x.toNat) := by rw [hl, List.getElem?_map, hj]; rfl
                  rw [List.getElem?_take] at h1
                  split at h1
                  · simpa using h1
                  · cases h1
                have hj' : j < cs'.size := by have := (Array.getElem?_eq_some_iff.1 hc).1; omega
                have hv := hall j _ _ hc (Array.getElem?_eq_getElem hj')
                rw [Array.getElem?_eq_getElem hj', flat_eq hv rfl]
              rw [hlen] at hrun
              have hT := ST.put (P := P) (ρ := ρ) (w' := w.freeze ⟨d, 0, none⟩ n) (c := d) (o := .cells c e (0, n)) (o' := .cells cs' e (0, n)) hz hm (by simp [ho]) hbd g5
                (.cells e _ _ (.inl ⟨rfl, fun h => by cases h⟩) hsz hall)
                (by
                  unfold World.freeze
                  rw [if_neg hn0]
                  simp [Array.getElem?_modify, q2]) (fun c2 e3 f3 h => by cases h; exact q4 _ _ _ rfl)
                (fun j hj => by
                  unfold World.freeze
                  rw [if_neg hn0]
                  simp only [Array.getElem?_modify]
                  rw [if_neg (Ne.symm hj)])
                (by unfold World.freeze; rw [if_neg hn0]; simp) (by unfold World.freeze; rw [if_neg hn0]) (by unfold World.freeze; rw [if_neg hn0]) (by unfold World.freeze; rw [if_neg hn0])
              have ead : (⟨d, ρ.off b + 0, none⟩ : Addr) = ⟨d, 0, none⟩ := by rw [q5]
              rw [ead]
              have hrun' : (Builtin.unsafeString_ #[pt, it] ty #[.pointer (some ⟨d, 0, none⟩), .int .i64 (Int.ofNat n)]).run P w = .ok (.string ⟨l.toArray⟩) (w.freeze ⟨d, 0, none⟩ n) := hrun
              exact ⟨_, hrun', rfl, hT, hm⟩
            · cases h
        · cases h
  · cases h
end
end
end Go.Proofs.YtdcjkglhhmnjiaaGreatDoor.Sx
