/- 'append' on memories that are the same but for their blocks' numbers. -/
import Derived.Test.YtnmejeeajidaaaaGreatDoorSxE
namespace Go.Proofs.YtnmejeeajidaaaaGreatDoor.Sx
noncomputable section

/-- so many cells of a block from an address on -/
def readRow (s : St) (a : Addr) (n : Nat) : Option (List Value) :=
  match s.obj a.block with
  | some (.cells c _ _) =>
    let l := (c.toList.drop a.off).take n
    bif a.spot.isNone && Nat.beq l.length n then some l else none
  | _ => none

/-- what is appended: how many, and their cells -/
def news (s : St) (size : Nat) (y : Value) : Option (Nat × List Value) :=
  match y with
  | .slice none m _ => bif Nat.beq m 0 then some (0, []) else none
  | .slice (some a) m _ => bif Nat.beq m 0 then some (0, []) else (readRow s a (m * size)).map fun l => (m, l)
  | _ => none

def oneCells (l : List Value) : Bool := l.all Value.oneCell'

def appendA (P : Program) (s : St) (argTypes : Array TypeId) (args : Array Value) : Option (Value × St) :=
  match argTypes.toList, args.toList with
  | [t, u], [x, y] => bif Nat.beq t u then match P.underlying t with
    | some (.slice e) => match P.info? e with
      | some i => match i.zero, news s i.size y with
        | some _, some (m, l) => bif Nat.beq m 0 then (match x with
            | .slice none 0 0 => some (x, s)
            | .slice (some _) n c => bif Nat.blt c most then (bif Nat.ble n c then some (x, s) else none) else some (x, s)
            | _ => none)
          else match x with
          | .slice none 0 0 => bif Nat.blt s.next most && Nat.ble (m * i.bytes) (2 ^ 47) && Nat.ble m (2 ^ 40) then some (.slice (some ⟨s.next, 0, none⟩) m unk, s.add (.cells l.toArray e (0, 0))) else none
          | .slice (some a) n c =>
            let fits := Nat.blt s.next most && Nat.ble ((n + m) * i.bytes) (2 ^ 47) && Nat.ble (n + m) (2 ^ 40)
            bif Nat.blt c most then (bif Nat.ble (n + m) c then (match s.obj a.block with
                | some (.cells cs e' (0, 0)) => bif (Nat.beq a.off 0 && a.spot.isNone) && (Nat.ble s.ro a.block && oneCells l) && (Nat.beq e' e && Nat.ble (n * i.size + l.length) cs.toList.length) then
                    some (.slice (some a) (n + m) c, s.put a.block (.cells (cs.toList.take (n * i.size) ++ l ++ cs.toList.drop (n * i.size + l.length)).toArray e (0, 0))) else none
                | _ => none)
              else match readRow s a (n * i.size) with
                | some old => bif fits then some (.slice (some ⟨s.next, 0, none⟩) (n + m) unk, s.add (.cells (old ++ l).toArray e (0, 0))) else none
                | none => none)
            else bif Nat.beq c unk && Nat.beq a.off 0 && a.spot.isNone && Nat.ble s.ro a.block && oneCells l && fits then (match s.obj a.block with
              | some (.cells cs e' (0, 0)) => bif Nat.beq e' e && Nat.ble (n * i.size) cs.toList.length then
                  some (.slice (some ⟨s.next, 0, none⟩) (n + m) unk, (s.del a.block).add (.cells (cs.toList.take (n * i.size) ++ l).toArray e (0, 0))) else none
              | _ => none) else none
          | _ => none
        | _, _ => none
      | none => none
    | _ => none else none
  | _, _ => none

section
variable {P : Program} {w : World} {ρ : Rho} {s : St}

/-- a row of the small memory is one of the world -/
theorem readRow_run (hz : RZ P ρ s w) {a a' : Addr} {n : Nat} {l : List Value} (ha : AR ρ a a') (h : readRow s a n = some l) :
    ∃ l' : List Value, l'.length = n ∧ l.length = n ∧ (∀ (j : Nat) (x y : Value), l[j]? = some x → l'[j]? = some y → VR ρ x y) ∧ ∀ j u, l'[j]? = some u → w.cell? (a'.add j) = some u := by
  unfold readRow at h
  split at h
  · rename_i c e f ho
    cases ha with
    | @mk b d o sp hb =>
    dsimp only at h ho
    cases hG : (sp.isNone && Nat.beq ((c.toList.drop o).take n).length n) with
    | false => rw [hG] at h; cases h
    | true =>
    rw [hG] at h
    cases h
    simp only [Bool.and_eq_true] at hG
    obtain ⟨g1, g2⟩ := hG
    obtain rfl : sp = none := by cases sp <;> simp_all
    have g2' := Nat.eq_of_beq_eq_true g2
    obtain ⟨d', o', h1, h2, h3, h4, h5⟩ := hz.obj _ _ ho
    rw [hb] at h1; cases h1
    rw [h5, Nat.zero_add]
    cases h3 with
    | @cells _ cs' _ _ f' hff hsz hall =>
    have hlen : n ≤ c.size - o := by simp at g2'; omega
    refine ⟨(cs'.toList.drop o).take n, by simp; omega, g2', fun j x y hx hy => ?_, fun j u hu => ?_⟩
    · rw [List.getElem?_take] at hx hy
      split at hx
      · rename_i hj
        rw [if_pos hj] at hy
        rw [List.getElem?_drop] at hx hy
        exact hall (o + j) x y (by simpa using hx) (by simpa using hy)
      · cases hx
    · rw [List.getElem?_take] at hu
      split at hu
      · rw [List.getElem?_drop] at hu
        have e1 : (⟨d, o, none⟩ : Addr).add j = ⟨d, o + j, none⟩ := by unfold Addr.add; split <;> simp_all
        rw [e1, cell_of h2]; simpa using hu
      · cases hu
  · cases h

theorem news_run (hz : RZ P ρ s w) {y y' : Value} {size m : Nat} {l : List Value} (hy : VR ρ y y') (h : news s size y = some (m, l)) :
    (m = 0 ∧ l = [] ∧ ((∃ c, y' = .slice none 0 c) ∨ ∃ a c, y' = .slice (some a) 0 c)) ∨
    ∃ (a : Addr) (c : Nat) (l' : List Value), y' = .slice (some a) m c ∧ m ≠ 0 ∧ l'.length = m * size ∧ l.length = m * size ∧ (∀ (j : Nat) (x y : Value), l[j]? = some x → l'[j]? = some y → VR ρ x y) ∧ ∀ j u, l'[j]? = some u → w.cell? (a.add j) = some u := by
  unfold news at h
  split at h
  · rename_i n c
    cases hy
    cases h0 : Nat.beq n 0 with
    | false => rw [h0] at h; cases h
    | true =>
      rw [h0] at h; cases h
      obtain rfl : n = 0 := Nat.eq_of_beq_eq_true h0
      exact .inl ⟨rfl, rfl, .inl ⟨_, rfl⟩⟩
  · rename_i a n c
    cases hy with
    | void _ a' c' =>
      have h : some (0, []) = some (m, l) := h
      cases h
      exact .inl ⟨rfl, rfl, .inr ⟨_, _, rfl⟩⟩
    | @slice _ a' _ _ c' ha hc =>
    cases h0 : Nat.beq n 0 with
    | true =>
      rw [h0] at h; cases h
      obtain rfl : n = 0 := Nat.eq_of_beq_eq_true h0
      exact .inl ⟨rfl, rfl, .inr ⟨_, _, rfl⟩⟩
    | false =>
      rw [h0] at h
      simp only [cond_false, Option.map_eq_some_iff] at h
      obtain ⟨l0, hl0, e⟩ := h
      cases e
      obtain ⟨l', h1, h2, h3, h4⟩ := readRow_run hz ha hl0
      exact .inr ⟨a', c', l', rfl, (fun e => by subst e; cases h0), h1, h2, h3, h4⟩
  · cases h

theorem cells_list {l l' rest : List Value} (hlen : l.length = l'.length) (h : ∀ (j : Nat) (x y : Value), l[j]? = some x → l'[j]? = some y → VR ρ x y) (cs : Array Value) (hcs : cs.toList = l' ++ rest) (e : TypeId) :
    OR ρ (.cells l.toArray e (0, 0)) (.cells cs e (0, 0)) := by
  have hsz : cs.size = l'.length + rest.length := by rw [← Array.length_toList, hcs]; simp
  refine .cells e _ _ (.inl ⟨rfl, by decide⟩) (by simp; omega) fun i x y hx hy => ?_
  have hx' : l[i]? = some x := by simpa using hx
  have hi : i < l.length := (List.getElem?_eq_some_iff.1 hx').1
  have hy' : cs.toList[i]? = some y := by simpa using hy
  rw [hcs, List.getElem?_append_left (by omega)] at hy'
  exact h i x y hx' hy'

theorem rows_append {l l' k k' : List Value} (hl : l.length = l'.length) (h : ∀ (j : Nat) (x y : Value), l[j]? = some x → l'[j]? = some y → VR ρ x y) (g : ∀ (j : Nat) (x y : Value), k[j]? = some x → k'[j]? = some y → VR ρ x y) :
    ∀ (j : Nat) (x y : Value), (l ++ k)[j]? = some x → (l' ++ k')[j]? = some y → VR ρ x y := by
  intro j x y hx hy
  rw [List.getElem?_append] at hx hy
  rw [← hl] at hy
  split at hx
  · rename_i hj; rw [if_pos hj] at hy; exact h j x y hx hy
  · rename_i hj; rw [if_neg hj] at hy; exact g _ x y hx hy

theorem oneCell_VR {x y : Value} (h : VR ρ x y) (hx : x.oneCell' = true) : y.oneCell' = true := by
  cases h <;> first | rfl | cases hx
theorem mk0 {b c o : Nat} {sp : Option Nat} (h : ρ.at_ b = some c ∧ ρ.off b = 0) : AR ρ ⟨b, o, sp⟩ ⟨c, o, sp⟩ := by
  have := AR.mk (ρ := ρ) (o := o) (s := sp) h.1
  rw [h.2, Nat.zero_add] at this; exact this
theorem unblt {a b : Nat} (h : Nat.blt a b = true) : a < b := Nat.le_of_ble_eq_true h

theorem append_run (hZ : ZeroOk P) (hE : ElemOk P) (hz : RZ P ρ s w) {ts : Array TypeId} {args args' : Array Value} {r : Value} {s' : St} (ty : TypeId) (hts : ∀ t ∈ ts, t < P.types.size) (hargs : VsR ρ args args') (h : appendA P s ts args = some (r, s')) (hm : s.next ≤ most) :
    ∃ ρ' r' w', (Builtin.append_ ts ty args').run P w = .ok r' w' ∧ VR ρ' r r' ∧ ST P ρ s w ρ' s' w' ∧ s'.next ≤ most := by
  unfold appendA at h
  split at h
  · rename_i t u x y htl has
    obtain rfl : ts = #[t, u] := by rw [← Array.toList_inj, htl]
    have ht : t < P.types.size := hts t (by simp)
    obtain rfl : args = #[x, y] := by rw [← Array.toList_inj, has]
    have hsz : args'.size = 2 := by rw [← hargs.1]; rfl
    obtain ⟨x', y', rfl⟩ : ∃ x' y', args' = #[x', y'] := by
      rcases args' with ⟨l⟩
      match l, hsz with
      | [a, b], _ => exact ⟨a, b, rfl⟩
    have hx : VR ρ x x' := hargs.2 0 x x' rfl rfl
    have hy : VR ρ y y' := hargs.2 1 y y' rfl rfl
    cases htu : Nat.beq t u with
    | false => rw [htu] at h; cases h
    | true =>
    obtain rfl : t = u := Nat.eq_of_beq_eq_true htu
    rw [htu] at h
    simp only [cond_true] at h
    split at h
    · rename_i e hu
      split at h
      · rename_i i hi
        split at h
        · rename_i z m l hzz hnews
          have hzc : z.cells.size = i.size := (hZ e i z (hE.slice t e ht hu) hi hzz).2
          have hce : cellsOf P e = i.size := by simp [cellsOf, hi]
          rcases news_run hz hy hnews with ⟨rfl, rfl, hy0⟩ | ⟨ya, yc, l', rfl, hm0, hl', hl, hrel, hcell⟩
          · simp only [Nat.beq_refl, cond_true] at h
            have run0 : ∀ (b : Option Addr) (n c : Nat), n ≤ c → (Builtin.append_ #[t, t] ty #[.slice b n c, y']).run P w = .ok (.slice b n c) w := by
              intro b n c hnc
              rcases hy0 with ⟨c2, rfl⟩ | ⟨a2, c2, rfl⟩ <;> cases b <;>
                simp [Builtin.append_, run_underlying hu, sizeOf, typeInfo, hi, Builtin.lenOf, Builtin.firstCells, loadCells, loadCellsFrom, storeCells, hnc]
            split at h
            · cases h; cases hx
              exact ⟨ρ, _, w, run0 none 0 0 (Nat.le_refl _), .snil _ _, .refl hz, hm⟩
            · rename_i a n c
              cases hx with
              | void _ a' c' =>
                have hk : Nat.blt (unk + 1) most = false := rfl
                rw [hk] at h; cases h
                exact ⟨ρ, _, w, run0 _ _ _ (Nat.zero_le _), .void _ _ _, .refl hz, hm⟩
              | @slice _ a' _ _ c' ha hc =>
              rcases hc with ⟨rfl, hc⟩ | ⟨j, rfl, hj, hcap, hn⟩
              · have hk : Nat.blt c' most = true := Nat.ble_eq_true_of_le hc
                rw [hk] at h
                simp only [cond_true] at h
                cases hnc : Nat.ble n c' with
                | false => rw [hnc] at h; cases h
                | true =>
                rw [hnc] at h; cases h
                exact ⟨ρ, _, w, run0 _ _ _ (Nat.le_of_ble_eq_true hnc), .slice _ _ _ ha (.inl ⟨rfl, hc⟩), .refl hz, hm⟩
              · have hk : Nat.blt (unk - j) most = false := by
                  cases hb : Nat.blt (unk - j) most with
                  | false => rfl
                  | true => have : unk - j < most := unblt hb
                            simp only [unk, most] at this hj; omega
                rw [hk] at h; cases h
                exact ⟨ρ, _, w, run0 _ _ _ hn, .slice _ _ _ ha (.inr ⟨j, rfl, hj, hcap, hn⟩), .refl hz, hm⟩
            · cases h
          · have hm1 : Nat.beq m 0 = false := by
              cases hb : Nat.beq m 0 with
              | false => rfl
              | true => exact absurd (Nat.eq_of_beq_eq_true hb) hm0
            rw [hm1] at h
            simp only [cond_false] at h
            split at h
            · -- nothing was there
              cases hx
              cases hG : (Nat.blt s.next most && Nat.ble (m * i.bytes) (2 ^ 47) && Nat.ble m (2 ^ 40)) with
              | false => rw [hG] at h; cases h
              | true =>
              rw [hG] at h; cases h
              simp only [Bool.and_eq_true, Nat.ble_eq] at hG
              obtain ⟨⟨g1, g2⟩, g3⟩ := hG
              have g1' := unblt g1
              have hr := run_append_nil (P := P) w t ty e i z hu hi hzz ya m yc l' hl' hcell (by omega) (by omega) (by omega)
              have hge := grownCap_ge w m 0 e
              obtain ⟨ρ', h1, h2, h3⟩ := ST.add (o := .cells l.toArray e (0, 0)) (k := grownCap w m 0 e) (w' := (w.drew.alloc (.cells (l'.toArray ++ Builtin.zeroCells z.cells (grownCap w m 0 e - m)) e))) hz g1'
                (cells_list (l' := l') (rest := (Builtin.zeroCells z.cells (grownCap w m 0 e - m)).toList) (by omega) hrel _ (by simp) e)
                (fun cs e2 f h => by
                  cases h
                  rw [hce, Array.size_append, size_zeroCells, hzc, List.size_toArray, hl', ← Nat.add_mul]
                  exact Nat.mul_le_mul_right _ (by omega)) rfl rfl rfl rfl
              exact ⟨ρ', _, _, hr, .slice _ _ _ (mk0 h1) (.inr ⟨0, rfl, by decide, by rw [h2]; rfl, hge⟩), h3, g1'⟩
            · rename_i a n c
              cases hx with
              | void _ a' c' =>
                have hk : Nat.blt (unk + 1) most = false := rfl
                have hk2 : Nat.beq (unk + 1) unk = false := rfl
                rw [hk, hk2] at h
                simp only [cond_false, Bool.false_and] at h
                cases h
              | @slice _ a' _ _ c' ha hc =>
              have grow : ∀ (old old' : List Value), c' < n + m → old'.length = n * i.size → old.length = n * i.size → (∀ (j : Nat) (x y : Value), old[j]? = some x → old'[j]? = some y → VR ρ x y) → (∀ j u, old'[j]? = some u → w.cell? (a'.add j) = some u) →
                  (Nat.blt s.next most && Nat.ble ((n + m) * i.bytes) (2 ^ 47) && Nat.ble (n + m) (2 ^ 40)) = true →
                  ∀ (s1 : St), s1.next = s.next ∧ s1.ro = s.ro ∧ s1.lo = s.lo → (∀ j oj, s1.obj j = some oj → s.obj j = some oj) → (∀ j, j < s.ro → s1.obj j = s.obj j) →
                  ∃ ρ' r' w', (Builtin.append_ #[t, t] ty #[.slice (some a') n c', .slice (some ya) m yc]).run P w = .ok r' w' ∧ VR ρ' (.slice (some ⟨s.next, 0, none⟩) (n + m) unk) r' ∧ ST P ρ s w ρ' (s1.add (.cells (old ++ l).toArray e (0, 0))) w' ∧ (s1.add (.cells (old ++ l).toArray e (0, 0))).next ≤ most := by
                intro old old' hlt ho1 ho2 ho3 ho4 hG s1 hs1 hsub hfix
                simp only [Bool.and_eq_true, Nat.ble_eq] at hG
                obtain ⟨⟨g1, g2⟩, g3⟩ := hG
                have g1' := unblt g1
                have hr := run_append_grow (P := P) w t ty e i z hu hi hzz a' n c' old' ho1 ho4 ya m yc l' hl' hcell hlt (by omega) (growslice_fits hlt (by omega))
                have hge := grownCap_ge w (n + m) c' e
                obtain ⟨ρ', h1, h2, h3⟩ := ST.turn (o := .cells (old ++ l).toArray e (0, 0)) (c := w.heap.size) (k := grownCap w (n + m) c' e) (s1 := s1)
                  (w' := (w.drew.alloc (.cells (old'.toArray ++ l'.toArray ++ Builtin.zeroCells z.cells (grownCap w (n + m) c' e - (n + m))) e)))
                  (o' := .cells (old'.toArray ++ l'.toArray ++ Builtin.zeroCells z.cells (grownCap w (n + m) c' e - (n + m))) e (0, 0)) hz g1' hs1 hsub hfix
                  (fun j _ e => absurd (hz.lt _ _ e) (Nat.lt_irrefl _)) (fun h => absurd h (Nat.lt_irrefl _))
                  (cells_list (l' := old' ++ l') (rest := (Builtin.zeroCells z.cells (grownCap w (n + m) c' e - (n + m))).toList) (by simp; omega) (rows_append (by omega) ho3 hrel) _ (by simp) e)
                  (by show (w.heap.push _)[w.heap.size]? = _; simp)
                  (fun cs e2 f h => by
                    cases h
                    rw [hce, Array.size_append, Array.size_append, size_zeroCells, hzc, List.size_toArray, List.size_toArray, hl', ho1, ← Nat.add_mul, ← Nat.add_mul]
                    exact Nat.mul_le_mul_right _ (by omega))
                  (fun j hj hlt => by show (w.heap.push _)[j]? = _; rw [Array.getElem?_push, if_neg hj]) (by show _ ≤ (w.heap.push _).size; simp) rfl rfl rfl
                exact ⟨ρ', _, _, hr, .slice _ _ _ (mk0 h1) (.inr ⟨0, rfl, by decide, by rw [h2]; rfl, hge⟩), h3, by show s1.next + 1 ≤ most; rw [hs1.1]; exact g1'⟩
              rcases hc with ⟨rfl, hc⟩ | ⟨j, rfl, hj, hcap, hn⟩
              · have hk : Nat.blt c' most = true := Nat.ble_eq_true_of_le hc
                rw [hk] at h
                simp only [cond_true] at h
                cases hroom : Nat.ble (n + m) c' with
                | true =>
                  rw [hroom] at h
                  simp only [cond_true] at h
                  have hnm : n + m ≤ c' := Nat.le_of_ble_eq_true hroom
                  split at h
                  · rename_i cs e' hob
                    cases hG : ((Nat.beq a.off 0 && a.spot.isNone) && (Nat.ble s.ro a.block && oneCells l) && (Nat.beq e' e && Nat.ble (n * i.size + l.length) cs.toList.length)) with
                    | false => rw [hG] at h; cases h
                    | true =>
                    rw [hG] at h
                    simp only [cond_true, Option.some.injEq, Prod.mk.injEq] at h
                    obtain ⟨rfl, rfl⟩ := h
                    simp only [Bool.and_eq_true] at hG
                    obtain ⟨⟨⟨q2, q3⟩, q4, q5⟩, g5, g6⟩ := hG
                    obtain rfl : e' = e := Nat.eq_of_beq_eq_true g5
                    have ha0 := ha
                    cases ha with
                    | @mk b d o sp hb =>
                    dsimp only at q2 q3 q4 hob
                    obtain rfl : o = 0 := Nat.eq_of_beq_eq_true q2
                    obtain rfl : sp = none := by cases sp <;> simp_all
                    have hlt : b < most := ex_lt hz hm hob
                    obtain ⟨d', o', h1, h2, h3, h4, h5⟩ := hz.obj _ _ hob
                    rw [hb] at h1; cases h1
                    rw [h5, Nat.zero_add] at ha0 ⊢
                    cases h3 with
                    | @cells _ cs' _ _ f' hff hsz hall =>
                    obtain rfl : f' = (0, 0) := by rcases hff with ⟨h, _⟩ | ⟨h, _⟩; exact h; cases h
                    have hroom' := h4 cs' e' (0, 0) rfl
                    have g6' : n * i.size + l.length ≤ cs.size := by have := Nat.le_of_ble_eq_true g6; simpa using this
                    have h1c : ∀ u ∈ l', u.oneCell' = true := by
                      intro u hu
                      obtain ⟨k, hk, rfl⟩ := List.getElem_of_mem hu
                      have hk' : k < l.length := by omega
                      refine oneCell_VR (hrel k l[k] l'[k] (List.getElem?_eq_getElem hk') (List.getElem?_eq_getElem hk)) ?_
                      exact List.all_eq_true.1 q5 _ (List.getElem_mem hk')
                    have hll : l.length = l'.length := by omega
                    have hfit : n * i.size + l'.length ≤ cs'.size := by omega
                    have hr := run_append_room (P := P) w t ty e' i hu hi d n c' cs' h2 ya m yc l' hl' hcell h1c hnm hfit
                    have hT := ST.put (P := P) (ρ := ρ) (w' := w.setRow d (cs'.toList.take (n * i.size) ++ l' ++ cs'.toList.drop (n * i.size + l'.length)).toArray) (c := d)
                      (o := .cells (cs.toList.take (n * i.size) ++ l ++ cs.toList.drop (n * i.size + l.length)).toArray e' (0, 0))
                      (o' := .cells (cs'.toList.take (n * i.size) ++ l' ++ cs'.toList.drop (n * i.size + l'.length)).toArray e' (0, 0)) hz hm (by simp [hob]) hb (Nat.le_of_ble_eq_true q4)
                      (.cells e' _ _ (.inl ⟨rfl, by decide⟩) (by simp; omega) fun j x y hx hy => by
                        have hx' : (cs.toList.take (n * i.size) ++ l ++ cs.toList.drop (n * i.size + l.length))[j]? = some x := by simpa using hx
                        have hy' : (cs'.toList.take (n * i.size) ++ l' ++ cs'.toList.drop (n * i.size + l'.length))[j]? = some y := by simpa using hy
                        have hold : ∀ (j : Nat) (x y : Value), (cs.toList.take (n * i.size))[j]? = some x → (cs'.toList.take (n * i.size))[j]? = some y → VR ρ x y := by
                          intro j x y hx hy
                          rw [List.getElem?_take] at hx hy
                          split at hx
                          · rename_i hj
                            rw [if_pos hj] at hy
                            exact hall j x y (by simpa using hx) (by simpa using hy)
                          · cases hx
                        refine rows_append (l := cs.toList.take (n * i.size) ++ l) (l' := cs'.toList.take (n * i.size) ++ l') (by simp; omega) (rows_append (by simp; omega) hold hrel) (fun k u v hu hv => ?_) j x y hx' hy'
                        rw [List.getElem?_drop] at hu hv
                        rw [← hll] at hv
                        exact hall _ u v (by simpa using hu) (by simpa using hv))
                      (setRow_heap w d cs' _ e' _ h2)
                      (fun cs2 e2 f h => by
                        cases h
                        have : (cs'.toList.take (n * i.size) ++ l' ++ cs'.toList.drop (n * i.size + l'.length)).length = cs'.size := by simp; omega
                        simp only [List.size_toArray]
                        rw [this]; exact hroom')
                      (fun j hj => setRow_other w d j _ hj) (by simp [World.setRow]) rfl rfl rfl
                    exact ⟨ρ, _, _, hr, .slice _ _ _ ha0 (.inl ⟨rfl, hc⟩), hT, hm⟩
                  · cases h
                | false =>
                rw [hroom] at h
                simp only [cond_false] at h
                have hlt : c' < n + m := Nat.lt_of_not_le fun hle => by rw [Nat.ble_eq_true_of_le hle] at hroom; cases hroom
                split at h
                · rename_i old hold
                  cases hG : (Nat.blt s.next most && Nat.ble ((n + m) * i.bytes) (2 ^ 47) && Nat.ble (n + m) (2 ^ 40)) with
                  | false => rw [hG] at h; cases h
                  | true =>
                  rw [hG] at h; cases h
                  obtain ⟨old', o1, o2, o3, o4⟩ := readRow_run hz ha hold
                  exact grow old old' hlt o1 o2 o3 o4 hG s ⟨rfl, rfl, rfl⟩ (fun _ _ h => h) (fun _ _ => rfl)
                · cases h
              · have hk : Nat.blt (unk - j) most = false := by
                  cases hb : Nat.blt (unk - j) most with
                  | false => rfl
                  | true => have : unk - j < most := unblt hb
                            simp only [unk, most] at this hj; omega
                rw [hk] at h
                simp only [cond_false] at h
                cases hG : (Nat.beq (unk - j) unk && Nat.beq a.off 0 && a.spot.isNone && Nat.ble s.ro a.block && oneCells l && (Nat.blt s.next most && Nat.ble ((n + m) * i.bytes) (2 ^ 47) && Nat.ble (n + m) (2 ^ 40))) with
                | false => rw [hG] at h; cases h
                | true =>
                rw [hG] at h
                simp only [cond_true] at h
                rw [Bool.and_eq_true, Bool.and_eq_true, Bool.and_eq_true, Bool.and_eq_true, Bool.and_eq_true] at hG
                obtain ⟨⟨⟨⟨⟨q1, q2⟩, q3⟩, q4⟩, q5⟩, q6⟩ := hG
                split at h
                · rename_i cs e' hob
                  cases ha with
                  | @mk b d o sp hb =>
                  dsimp only at q2 q3 q4 hob hcap h
                  obtain rfl : o = 0 := Nat.eq_of_beq_eq_true q2
                  obtain rfl : sp = none := by cases sp <;> simp_all
                  obtain rfl : j = 0 := by
                    have := Nat.eq_of_beq_eq_true q1
                    simp only [unk, most] at this hj; omega
                  cases hG2 : (Nat.beq e' e && Nat.ble (n * i.size) cs.toList.length) with
                  | false => rw [hG2] at h; cases h
                  | true =>
                  rw [hG2] at h
                  simp only [cond_true, Option.some.injEq, Prod.mk.injEq] at h
                  obtain ⟨rfl, rfl⟩ := h
                  simp only [Bool.and_eq_true, Nat.ble_eq] at hG2
                  obtain ⟨g5, g6⟩ := hG2
                  obtain rfl : e' = e := Nat.eq_of_beq_eq_true g5
                  have hlt : b < most := ex_lt hz hm hob
                  obtain ⟨d', o', h1, h2, h3, h4, h5⟩ := hz.obj _ _ hob
                  rw [hb] at h1; cases h1
                  rw [h5, Nat.zero_add] at grow ⊢
                  cases h3 with
                  | @cells _ cs' _ _ f' hff hsz hall =>
                  obtain rfl : f' = (0, 0) := by rcases hff with ⟨h, _⟩ | ⟨h, _⟩; exact h; cases h
                  have hroom := h4 cs' e' (0, 0) rfl
                  rw [hce, ← hcap, Nat.add_zero] at hroom
                  have g6' : n * i.size ≤ cs.size := by simpa using g6
                  have hold : ∀ (j : Nat) (x y : Value), (cs.toList.take (n * i.size))[j]? = some x → (cs'.toList.take (n * i.size))[j]? = some y → VR ρ x y := by
                    intro j x y hx hy
                    rw [List.getElem?_take] at hx hy
                    split at hx
                    · rename_i hj
                      rw [if_pos hj] at hy
                      exact hall j x y (by simpa using hx) (by simpa using hy)
                    · cases hx
                  have hsub : ∀ j oj, (s.del b).obj j = some oj → s.obj j = some oj := by
                    intro j oj hj
                    rw [obj_del s b j hlt] at hj
                    split at hj
                    · cases hj
                    · exact hj
                  have hfix : ∀ j, j < s.ro → (s.del b).obj j = s.obj j := by
                    intro j hj
                    rw [obj_del s b j hlt, if_neg]
                    have := Nat.le_of_ble_eq_true q4
                    omega
                  by_cases hnm : n + m ≤ c'
                  · -- in its place
                    have h1c : ∀ u ∈ l', u.oneCell' = true := by
                      intro u hu
                      obtain ⟨k, hk, rfl⟩ := List.getElem_of_mem hu
                      have hk' : k < l.length := by omega
                      refine oneCell_VR (hrel k l[k] l'[k] (List.getElem?_eq_getElem hk') (List.getElem?_eq_getElem hk)) ?_
                      exact List.all_eq_true.1 q5 _ (List.getElem_mem hk')
                    have hfit : n * i.size + l'.length ≤ cs'.size := by
                      rw [hl', ← Nat.add_mul]
                      exact Nat.le_trans (Nat.mul_le_mul_right _ hnm) hroom
                    have hr := run_append_room (P := P) w t ty e' i hu hi d n c' cs' h2 ya m yc l' hl' hcell h1c hnm hfit
                    have hmm : s.next < most := by
                      rw [Bool.and_eq_true, Bool.and_eq_true] at q6
                      exact unblt q6.1.1
                    obtain ⟨ρ', k1, k2, k3⟩ := ST.turn (o := .cells (cs.toList.take (n * i.size) ++ l).toArray e' (0, 0)) (c := d) (k := c') (s1 := s.del b)
                      (w' := w.setRow d (cs'.toList.take (n * i.size) ++ l' ++ cs'.toList.drop (n * i.size + l'.length)).toArray)
                      (o' := .cells (cs'.toList.take (n * i.size) ++ l' ++ cs'.toList.drop (n * i.size + l'.length)).toArray e' (0, 0)) hz hmm ⟨rfl, rfl, rfl⟩ hsub hfix
                      (fun j hj ej => by
                        rw [obj_del s b j hlt] at hj
                        split at hj
                        · cases hj
                        · rename_i hjb
                          exact hjb (hz.inj j b d hj (by simp [hob]) ej hb))
                      (fun _ => ⟨b, Nat.le_of_ble_eq_true q4, by simp [hob], hb⟩)
                      (cells_list (l' := cs'.toList.take (n * i.size) ++ l') (rest := cs'.toList.drop (n * i.size + l'.length)) (by simp; omega) (rows_append (by simp; omega) hold hrel) _ (by simp) e')
                      (setRow_heap w d cs' _ e' _ h2)
                      (fun cs2 e2 f h => by
                        cases h
                        rw [hce]
                        have : (cs'.toList.take (n * i.size) ++ l' ++ cs'.toList.drop (n * i.size + l'.length)).length = cs'.size := by simp; omega
                        simp only [List.size_toArray]
                        rw [this]; exact hroom)
                      (fun j hj _ => setRow_other w d j _ hj) (by simp [World.setRow]) rfl rfl rfl
                    exact ⟨ρ', _, _, hr, .slice _ _ _ (mk0 k1) (.inr ⟨0, rfl, by decide, by rw [k2]; rfl, hnm⟩), k3, hmm⟩
                  · exact grow (cs.toList.take (n * i.size)) (cs'.toList.take (n * i.size)) (by omega) (by simp; omega) (by simp; omega) hold
                      (fun j u hu => by
                        rw [List.getElem?_take] at hu
                        split at hu
                        · have e1 : (⟨d, 0, none⟩ : Addr).add j = ⟨d, j, none⟩ := by unfold Addr.add; split <;> simp_all
                          rw [e1, cell_of h2]; simpa using hu
                        · cases hu) q6 (s.del b) ⟨rfl, rfl, rfl⟩ hsub hfix
                · cases h
            · cases h
        · cases h
      · cases h
    · cases h
  · cases h

end
end
end Go.Proofs.YtnmejeeajidaaaaGreatDoor.Sx
