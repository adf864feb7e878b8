/- 'append' on memories that are the same but for their blocks' numbers. -/
import Derived.Test.YtdcjkglhhmnjiaaGreatDoorSyE
namespace Go.Proofs.YtdcjkglhhmnjiaaGreatDoor.Sx
noncomputable section

/-- so many cells of a block from an address on -/
def readRow (s : St) (a : Addr) (n : Nat) : Option (List Value) :=
  match s.obj a.block with
  | some (.cells c _ _) =>
    let l := (c.toList.drop a.off).take n
    bif a.spot.isNone && Nat.beq l.length n then some l else none
  | _ => none

/-- what is appended: how many, and their cells -/
def news (s : St) (size : Nat) (y : Value) : Option (Nat × List Value) :=
  match y with
  | .slice none m _ => bif Nat.beq m 0 then some (0, []) else none
  | .slice (some a) m _ => bif Nat.beq m 0 then some (0, []) else (readRow s a (m * size)).map fun l => (m, l)
  | .string b => bif Nat.beq size 1 then some (b.data.toList.length, b.data.toList.map fun c => .int .u8 c.toNat) else none
  | _ => none
/-- what is appended: a row of the same kind, or a text -/
def srcOk (P : Program) (t u : TypeId) (y : Value) : Bool := match y with
  | .string _ => (match P.underlying u with
    | some .string => true
    | _ => false)
  | _ => Nat.beq t u

def oneCells (l : List Value) : Bool := l.all Value.oneCell'

def appendA (P : Program) (s : St) (argTypes : Array TypeId) (args : Array Value) : Option (Value × St) :=
  match argTypes.toList, args.toList with
  | [t, u], [x, y] => bif srcOk P t u y then match P.underlying t with
    | some (.slice e) => match P.info? e with
      | some i => match i.zero, news s i.size y with
        | some _, some (m, l) => bif Nat.beq m 0 then (match x with
            | .slice none 0 0 => some (x, s)
            | .slice (some _) n c => bif Nat.blt c most then (bif Nat.ble n c then some (x, s) else none) else some (x, s)
            | _ => none)
          else match x with
          | .slice none 0 0 => bif Nat.blt s.next most && Nat.ble (m * i.bytes) (2 ^ 47) && Nat.ble m (2 ^ 40) then some (.slice (some ⟨s.next, 0, none⟩) m unk, s.add (.cells l.toArray e (0, 0))) else none
          | .slice (some a) n c =>
            let fits := Nat.blt s.next most && Nat.ble ((n + m) * i.bytes) (2 ^ 47) && Nat.ble (n + m) (2 ^ 40)
            bif Nat.blt c most then (bif Nat.ble (n + m) c then (match s.obj a.block with
                | some (.cells cs e' (0, 0)) => bif (Nat.beq a.off 0 && a.spot.isNone) && (Nat.ble s.ro a.block && oneCells l) && (Nat.beq e' e && Nat.ble (n * i.size + l.length) cs.toList.length) then
                    some (.slice (some a) (n + m) c, s.put a.block (.cells (cs.toList.take (n * i.size) ++ l ++ cs.toList.drop (n * i.size + l.length)).toArray e (0, 0))) else none
                | _ => none)
              else match readRow s a (n * i.size) with
                | some old => bif fits then some (.slice (some ⟨s.next, 0, none⟩) (n + m) unk, s.add (.cells (old ++ l).toArray e (0, 0))) else none
                | none => none)
            else bif Nat.beq c unk && Nat.beq a.off 0 && a.spot.isNone && Nat.ble s.ro a.block && oneCells l && fits then (match s.obj a.block with
              | some (.cells cs e' (0, 0)) => bif Nat.beq e' e && Nat.ble (n * i.size) cs.toList.length then
                  some (.slice (some ⟨s.next, 0, none⟩) (n + m) unk, (s.del a.block).add (.cells (cs.toList.take (n * i.size) ++ l).toArray e (0, 0))) else none
              | _ => none) else none
          | _ => none
        | _, _ => none
      | none => none
    | _ => none else none
  | _, _ => none

section
variable {P : Program} {w : World} {ρ : Rho} {s : St}

/-- a row of the small memory is one of the world -/
theorem readRow_run (hz : RZ P ρ s w) {a a' : Addr} {n : Nat} {l : List Value} (ha : AR ρ a a') (h : readRow s a n = some l) :
    ∃ l' : List Value, l'.length = n ∧ l.length = n ∧ (∀ (j : Nat) (x y : Value), l[j]? = some x → l'[j]? = some y → VR ρ x y) ∧ ∀ j u, l'[j]? = some u → w.cell? (a'.add j) = some u := by
  unfold readRow at h
  split at h
  · rename_i c e f ho
    cases ha with
    | @mk b d o sp hb =>
    dsimp only at h ho
    cases hG : (sp.isNone && Nat.beq ((c.toList.drop o).take n).length n) with
    | false => rw [hG] at h; cases h
    | true =>
    rw [hG] at h
    cases h
    simp only [Bool.and_eq_true] at hG
    obtain ⟨g1, g2⟩ := hG
    obtain rfl : sp = none := by cases sp <;> simp_all
    have g2' := Nat.eq_of_beq_eq_true g2
    obtain ⟨d', o', h1, h2, h3, h4, h5⟩ := hz.obj _ _ ho
    rw [hb] at h1; cases h1
    rw [h5, Nat.zero_add]
    cases h3 with
    | @cells _ cs' _ _ f' hff hsz hall =>
    have hlen : n ≤ c.size - o := by simp at g2'; omega
    refine ⟨(cs'.toList.drop o).take n, by simp; omega, g2', fun j x y hx hy => ?_, fun j u hu => ?_⟩
    · rw [List.getElem?_take] at hx hy
      split at hx
      · rename_i hj
        rw [if_pos hj] at hy
        rw [List.getElem?_drop] at hx hy
        exact hall (o + j) x y (by simpa using hx) (by simpa using hy)
      · cases hx
    · rw [List.getElem?_take] at hu
      split at hu
      · rw [List.getElem?_drop] at hu
        have e1 : (⟨d, o, none⟩ : Addr).add j = ⟨d, o + j, none⟩ := by unfold Addr.add; split <;> simp_all
        rw [e1, cell_of h2]; simpa using hu
      · cases hu
  · cases h

/-- what is appended, as the world reads it -/
structure Src (P : Program) (w : World) (u : TypeId) (y' : Value) (size m : Nat) (l' : List Value) : Prop where
  len : ∀ w1, (Builtin.lenOf y').run P w1 = .ok m w1
  cells : (Builtin.firstCells size m y').run P w = .ok l'.toArray w ∧ (Builtin.firstCells size m y').run P w.drew = .ok l'.toArray w.drew
  desc : (∃ e', P.underlying u = some (.slice e')) ∨ P.underlying u = some .string

theorem news_run (hz : RZ P ρ s w) {t u e : TypeId} {y y' : Value} {size m : Nat} {l : List Value} (hu : P.underlying t = some (.slice e)) (hy : VR ρ y y') (hok : srcOk P t u y = true) (h : news s size y = some (m, l)) :
    ∃ (l' : List Value), l'.length = m * size ∧ l.length = m * size ∧ (∀ (j : Nat) (x y : Value), l[j]? = some x → l'[j]? = some y → VR ρ x y) ∧ Src P w u y' size m l' := by
  have d0 : ∀ {v : Value}, srcOk P t u v = true → (∀ b, v ≠ .string b) → (∃ e', P.underlying u = some (.slice e')) ∨ P.underlying u = some .string := by
    intro v hv hn
    have hb : Nat.beq t u = true := by
      unfold srcOk at hv
      split at hv
      · exact absurd rfl (hn _)
      · exact hv
    obtain rfl : t = u := Nat.eq_of_beq_eq_true hb
    exact .inl ⟨_, hu⟩
  unfold news at h
  split at h
  · rename_i n c
    cases hy
    cases h0 : Nat.beq n 0 with
    | false => rw [h0] at h; cases h
    | true =>
      rw [h0] at h; cases h
      obtain rfl : n = 0 := Nat.eq_of_beq_eq_true h0
      exact ⟨[], by simp, by simp, (fun j x y h => by simp at h), (fun _ => by simp [Builtin.lenOf]), ⟨by simp [Builtin.firstCells], by simp [Builtin.firstCells]⟩, d0 hok (fun b e => by cases e)⟩
  · rename_i a n c
    have zero : ∀ (a' : Addr) (c' : Nat), ∃ (l' : List Value), l'.length = 0 * size ∧ ([] : List Value).length = 0 * size ∧ (∀ (j : Nat) (x y : Value), ([] : List Value)[j]? = some x → l'[j]? = some y → VR ρ x y) ∧ Src P w u (.slice (some a') 0 c') size 0 l' := fun a' c' =>
      ⟨[], by simp, by simp, (fun j x y h => by simp at h), (fun _ => by simp [Builtin.lenOf]), ⟨by simp [Builtin.firstCells, loadCells, loadCellsFrom], by simp [Builtin.firstCells, loadCells, loadCellsFrom]⟩, d0 hok (fun b e => by cases e)⟩
    cases hy with
    | void _ a' c' =>
      have h : some (0, []) = some (m, l) := h
      cases h
      exact zero a' c'
    | @slice _ a' _ _ c' ha hc =>
    cases h0 : Nat.beq n 0 with
    | true =>
      rw [h0] at h; cases h
      obtain rfl : n = 0 := Nat.eq_of_beq_eq_true h0
      exact zero a' c'
    | false =>
      rw [h0] at h
      simp only [cond_false, Option.map_eq_some_iff] at h
      obtain ⟨l0, hl0, e⟩ := h
      cases e
      obtain ⟨l', h1, h2, h3, h4⟩ := readRow_run hz ha hl0
      exact ⟨l', h1, h2, h3, (fun _ => by simp [Builtin.lenOf]), ⟨run_firstCells_some (P := P) w size _ a' _ c' l' h1 h4, run_firstCells_some (P := P) w.drew size _ a' _ c' l' h1 (by simpa using h4)⟩, d0 hok (fun b e => by cases e)⟩
  · rename_i b
    cases hy
    cases h0 : Nat.beq size 1 with
    | false => rw [h0] at h; cases h
    | true =>
      rw [h0] at h; cases h
      obtain rfl : size = 1 := Nat.eq_of_beq_eq_true h0
      have hd : (∃ e', P.underlying u = some (.slice e')) ∨ P.underlying u = some .string := by
        unfold srcOk at hok
        dsimp only at hok
        split at hok
        · rename_i hu; exact .inr hu
        · cases hok
      have hf : ((b.extract 0 b.data.toList.length).data.map fun c : UInt8 => Value.int .u8 c.toNat) = (b.data.toList.map fun c => Value.int .u8 c.toNat).toArray := by
        apply Array.ext'
        simp
      refine ⟨b.data.toList.map fun c => .int .u8 c.toNat, by simp, by simp, fun j x y hx hy => ?_, fun _ => by simp [Builtin.lenOf], ⟨by simp only [Builtin.firstCells, hf]; rfl, by simp only [Builtin.firstCells, hf]; rfl⟩, hd⟩
      rw [hx] at hy; cases hy
      simp only [List.getElem?_map, Option.map_eq_some_iff] at hx
      obtain ⟨c, _, rfl⟩ := hx
      exact .int _ _
  · cases h

section
variable (P) (w)
theorem src_append_nil (t u ty e : TypeId) (i : TypeInfo) (z : Value) (ht : P.underlying t = some (.slice e)) (hi : P.info? e = some i) (hz : i.zero = some z)
    {y' : Value} {n : Nat} {news : List Value} (hs : Src P w u y' i.size n news)
    (h0 : 0 < n) (h63 : (n : Int) ≤ 9223372036854775807) (h48 : n * i.bytes ≤ 281474976710656) :
    (Builtin.append_ #[t, u] ty #[.slice none 0 0, y']).run P w =
      .ok (.slice (some ⟨w.heap.size, 0, none⟩) n (grownCap w n 0 e)) (w.drew.alloc (.cells (news.toArray ++ Builtin.zeroCells z.cells (grownCap w n 0 e - n)) e)) := by
  have hn : n ≠ 0 := by omega
  have h63' : ¬ (9223372036854775807 < (n : Int)) := by omega
  have h48' : ¬ (281474976710656 < Builtin.nextslicecap n 0 * i.bytes) := by rw [nextslicecap_zero h0]; omega
  have hf := hs.cells.2
  have hd := hs.desc
  have hl := hs.len
  rcases hd with ⟨e', hu⟩ | hu <;>
    simp [Builtin.append_, run_underlying ht, run_underlying hu, sizeOf, typeInfo, zeroValue, hi, hz, hl, hn, h63', h48', Question.forced, run_firstCells_none, hf, newRow, grownCap]

theorem src_append_grow (t u ty e : TypeId) (i : TypeInfo) (z : Value) (ht : P.underlying t = some (.slice e)) (hi : P.info? e = some i) (hz : i.zero = some z)
    (b : Addr) (sLen sCap : Nat) (olds : List Value) (hlo : olds.length = sLen * i.size) (holds : ∀ j v, olds[j]? = some v → w.cell? (b.add j) = some v)
    {y' : Value} {n : Nat} {news : List Value} (hs : Src P w u y' i.size n news)
    (hg : sCap < sLen + n) (h63 : ((sLen + n : Nat) : Int) ≤ 9223372036854775807) (hfit : Builtin.nextslicecap (sLen + n) sCap * i.bytes ≤ 281474976710656) :
    (Builtin.append_ #[t, u] ty #[.slice (some b) sLen sCap, y']).run P w =
      .ok (.slice (some ⟨w.heap.size, 0, none⟩) (sLen + n) (grownCap w (sLen + n) sCap e))
        (w.drew.alloc (.cells (olds.toArray ++ news.toArray ++ Builtin.zeroCells z.cells (grownCap w (sLen + n) sCap e - (sLen + n))) e)) := by
  have hn : ¬ (sLen + n ≤ sCap) := by omega
  have h63' : ¬ (9223372036854775807 < ((sLen : Int) + (n : Int))) := by omega
  have h48' : ¬ (281474976710656 < Builtin.nextslicecap (sLen + n) sCap * i.bytes) := by omega
  have hf := hs.cells.2
  have hfo := run_firstCells_some (P := P) w.drew i.size sLen b sLen sCap olds hlo (by simpa using holds)
  have hd := hs.desc
  have hl := hs.len
  have hass : ∀ z : Array Value, olds.toArray ++ (news.toArray ++ z) = olds.toArray ++ news.toArray ++ z := fun z => (Array.append_assoc).symm
  rcases hd with ⟨e', hu⟩ | hu <;>
  · simp [Builtin.append_, run_underlying ht, run_underlying hu, sizeOf, typeInfo, zeroValue, hi, hz, hl, hn, h63', h48', Question.forced, hf, hfo, newRow, grownCap]
    try (congr 2; apply Array.ext'; simp [List.append_assoc])

theorem src_append_room (t u ty e : TypeId) (i : TypeInfo) (ht : P.underlying t = some (.slice e)) (hi : P.info? e = some i)
    (g sLen sCap : Nat) (cur : Array Value) (hg : w.heap[g]? = some (.cells cur e (0, 0)))
    {y' : Value} {m : Nat} {news : List Value} (hs : Src P w u y' i.size m news) (h1 : ∀ u ∈ news, u.oneCell' = true)
    (hroom : sLen + m ≤ sCap) (hfit : sLen * i.size + news.length ≤ cur.size) :
    (Builtin.append_ #[t, u] ty #[.slice (some ⟨g, 0, none⟩) sLen sCap, y']).run P w =
      .ok (.slice (some ⟨g, 0, none⟩) (sLen + m) sCap) (w.setRow g (cur.toList.take (sLen * i.size) ++ news ++ cur.toList.drop (sLen * i.size + news.length)).toArray) := by
  have hf := hs.cells.1
  have hst := run_storeCells_at P g (sLen * i.size) e news 0 cur w hg (by simpa using hfit) h1
  simp only [Nat.add_zero] at hst
  have hd := hs.desc
  have hl := hs.len
  rcases hd with ⟨e', hu⟩ | hu <;>
    simp [Builtin.append_, run_underlying ht, run_underlying hu, sizeOf, typeInfo, hi, hl, hroom, hf, Addr.add_lit, hst]
theorem src_append_zero (t u ty e : TypeId) (i : TypeInfo) (ht : P.underlying t = some (.slice e)) (hi : P.info? e = some i) {y' : Value} (hs : Src P w u y' i.size 0 []) (b : Option Addr) (n c : Nat) (hnc : n ≤ c) :
    (Builtin.append_ #[t, u] ty #[.slice b n c, y']).run P w = .ok (.slice b n c) w := by
  have hf := hs.cells.1
  have hd := hs.desc
  have hl := hs.len
  rcases hd with ⟨e', hu⟩ | hu <;> cases b <;>
    simp [Builtin.append_, run_underlying ht, run_underlying hu, sizeOf, typeInfo, hi, hl, hf, hnc, storeCells]
end

theorem cells_list {l l' rest : List Value} (hlen : l.length = l'.length) (h : ∀ (j : Nat) (x y : Value), l[j]? = some x → l'[j]? = some y → VR ρ x y) (cs : Array Value) (hcs : cs.toList = l' ++ rest) (e : TypeId) :
    OR ρ (.cells l.toArray e (0, 0)) (.cells cs e (0, 0)) := by
  have hsz : cs.size = l'.length + rest.length := by rw [← Array.length_toList, hcs]; simp
  refine .cells e _ _ (.inl ⟨rfl, by decide⟩) (by simp; omega) fun i x y hx hy => ?_
  have hx' : l[i]? = some x := by simpa using hx
  have hi : i < l.length := (List.getElem?_eq_some_iff.1 hx').1
  have hy' : cs.toList[i]? = some y := by simpa using hy
  rw [hcs, List.getElem?_append_left (by omega)] at hy'
  exact h i x y hx' hy'

theorem rows_append {l l' k k' : List Value} (hl : l.length = l'.length) (h : ∀ (j : Nat) (x y : Value), l[j]? = some x → l'[j]? = some y → VR ρ x y) (g : ∀ (j : Nat) (x y : Value), k[j]? = some x → k'[j]? = some y → VR ρ x y) :
    ∀ (j : Nat) (x y : Value), (l ++ k)[j]? = some x → (l' ++ k')[j]? = some y → VR ρ x y := by
  intro j x y hx hy
  rw [List.getElem?_append] at hx hy
  rw [← hl] at hy
  split at hx
  · rename_i hj; rw [if_pos hj] at hy; exact h j x y hx hy
  · rename_i hj; rw [if_neg hj] at hy; exact g _ x y hx hy

theorem oneCell_VR {x y : Value} (h : VR ρ x y) (hx : x.oneCell' = true) : y.oneCell' = true := by
  cases h <;> first | rfl | cases hx
theorem mk0 {b c o : Nat} {sp : Option Nat} (h : ρ.at_ b = some c ∧ ρ.off b = 0) : AR ρ ⟨b, o, sp⟩ ⟨c, o, sp⟩ := by
  have := AR.mk (ρ := ρ) (o := o) (s := sp) h.1
  rw [h.2, Nat.zero_add] at this; exact this
theorem unblt {a b : Nat} (h : Nat.blt a b = true) : a < b := Nat.le_of_ble_eq_true h

theorem append_run (hZ : ZeroOk P) (hE : ElemOk P) (hz : RZ P ρ s w) {ts : Array TypeId} {args args' : Array Value} {r : Value} {s' : St} (ty : TypeId) (hts : ∀ t ∈ ts, t < P.types.size) (hargs : VsR ρ args args') (h : appendA P s ts args = some (r, s')) (hm : s.next ≤ most) :
    ∃ ρ' r' w', (Builtin.append_ ts ty args').run P w = .ok r' w' ∧ VR ρ' r r' ∧ ST P ρ s w ρ' s' w' ∧ s'.next ≤ most := by
  unfold appendA at h
  split at h
  · rename_i t u x y htl has
    obtain rfl : ts = #[t, u] := by rw [← Array.toList_inj, htl]
    have ht : t < P.types.size := hts t (by simp)
    obtain rfl : args = #[x, y] := by rw [← Array.toList_inj, has]
    have hsz : args'.size = 2 := by rw [← hargs.1]; rfl
    obtain ⟨x', y', rfl⟩ : ∃ x' y', args' = #[x', y'] := by
      rcases args' with ⟨l⟩
      match l, hsz with
      | [a, b], _ => exact ⟨a, b, rfl⟩
    have hx : VR ρ x x' := hargs.2 0 x x' rfl rfl
    have hy : VR ρ y y' := hargs.2 1 y y' rfl rfl
    cases htu : srcOk P t u y with
    | false => rw [htu] at h; cases h
    | true =>
    rw [htu] at h
    simp only [cond_true] at h
    split at h
    · rename_i e hu
      split at h
      · rename_i i hi
        split at h
        · rename_i z m l hzz hnews
          have hzc : z.cells.size = i.size := (hZ e i z (hE.slice t e ht hu) hi hzz).2
          have hce : cellsOf P e = i.size := by simp [cellsOf, hi]
          obtain ⟨l', hl', hl, hrel, hsrc⟩ := news_run hz hu hy htu hnews
          rcases Nat.eq_zero_or_pos m with rfl | hm0
          · obtain rfl : l' = [] := List.length_eq_zero_iff.1 (by omega)
            obtain rfl : l = [] := List.length_eq_zero_iff.1 (by omega)
            simp only [Nat.beq_refl, cond_true] at h
            have run0 : ∀ (b : Option Addr) (n c : Nat), n ≤ c → (Builtin.append_ #[t, u] ty #[.slice b n c, y']).run P w = .ok (.slice b n c) w := fun b n c hnc => src_append_zero P w t u ty e i hu hi hsrc b n c hnc
            split at h
            · cases h; cases hx
              exact ⟨ρ, _, w, run0 none 0 0 (Nat.le_refl _), .snil _ _, .refl hz, hm⟩
            · rename_i a n c
              cases hx with
              | void _ a' c' =>
                have hk : Nat.blt (unk + 1) most = false := rfl
                rw [hk] at h; cases h
                exact ⟨ρ, _, w, run0 _ _ _ (Nat.zero_le _), .void _ _ _, .refl hz, hm⟩
              | @slice _ a' _ _ c' ha hc =>
              rcases hc with ⟨rfl, hc⟩ | ⟨j, rfl, hj, hcap, hn⟩
              · have hk : Nat.blt c' most = true := Nat.ble_eq_true_of_le hc
                rw [hk] at h
                simp only [cond_true] at h
                cases hnc : Nat.ble n c' with
                | false => rw [hnc] at h; cases h
                | true =>
                rw [hnc] at h; cases h
                exact ⟨ρ, _, w, run0 _ _ _ (Nat.le_of_ble_eq_true hnc), .slice _ _ _ ha (.inl ⟨rfl, hc⟩), .refl hz, hm⟩
              · have hk : Nat.blt (unk - j) most = false := by
                  cases hb : Nat.blt (unk - j) most with
                  | false => rfl
                  | true => have : unk - j < most := unblt hb
                            simp only [unk, most] at this hj; omega
                rw [hk] at h; cases h
                exact ⟨ρ, _, w, run0 _ _ _ hn, .slice _ _ _ ha (.inr ⟨j, rfl, hj, hcap, hn⟩), .refl hz, hm⟩
            · cases h
          · have hm1 : Nat.beq m 0 = false := by
              cases hb : Nat.beq m 0 with
              | false => rfl
              | true => have := Nat.eq_of_beq_eq_true hb; omega
            rw [hm1] at h
            simp only [cond_false] at h
            split at h
            · -- nothing was there
              cases hx
              cases hG : (Nat.blt s.next most && Nat.ble (m * i.bytes) (2 ^ 47) && Nat.ble m (2 ^ 40)) with
              | false => rw [hG] at h; cases h
              | true =>
              rw [hG] at h; cases h
              simp only [Bool.and_eq_true, Nat.ble_eq] at hG
              obtain ⟨⟨g1, g2⟩, g3⟩ := hG
              have g1' := unblt g1
              have hr := src_append_nil P w t u ty e i z hu hi hzz hsrc (by omega) (by omega) (by omega)
              have hge := grownCap_ge w m 0 e
              have hkm : grownCap w m 0 e ≤ 9223372036854775807 := grownCap_le_maxLen w m 0 e (by simp only [maxLen]; omega)
              obtain ⟨ρ', h1, h2, h3⟩ := ST.add (o := .cells l.toArray e (0, 0)) (k := grownCap w m 0 e) (w' := (w.drew.alloc (.cells (l'.toArray ++ Builtin.zeroCells z.cells (grownCap w m 0 e - m)) e))) hz g1'
                (cells_list (l' := l') (rest := (Builtin.zeroCells z.cells (grownCap w m 0 e - m)).toList) (by omega) hrel _ (by simp) e)
                (fun cs e2 f h => by
                  cases h
                  rw [hce, Array.size_append, size_zeroCells, hzc, List.size_toArray, hl', ← Nat.add_mul]
                  exact Nat.mul_le_mul_right _ (by omega)) rfl rfl rfl rfl
              exact ⟨ρ', _, _, hr, .slice _ _ _ (mk0 h1) (.inr ⟨0, rfl, by decide, by rw [h2]; rfl, hge⟩), h3, g1'⟩
            · rename_i a n c
              cases hx with
              | void _ a' c' =>
                have hk : Nat.blt (unk + 1) most = false := rfl
                have hk2 : Nat.beq (unk + 1) unk = false := rfl
                rw [hk, hk2] at h
                simp only [cond_false, Bool.false_and] at h
                cases h
              | @slice _ a' _ _ c' ha hc =>
              have grow : ∀ (old old' : List Value), c' < n + m → old'.length = n * i.size → old.length = n * i.size → (∀ (j : Nat) (x y : Value), old[j]? = some x → old'[j]? = some y → VR ρ x y) → (∀ j u, old'[j]? = some u → w.cell? (a'.add j) = some u) →
                  (Nat.blt s.next most && Nat.ble ((n + m) * i.bytes) (2 ^ 47) && Nat.ble (n + m) (2 ^ 40)) = true →
                  ∀ (s1 : St), s1.next = s.next ∧ s1.ro = s.ro ∧ s1.lo = s.lo → (∀ j oj, s1.obj j = some oj → s.obj j = some oj) → (∀ j, j < s.ro → s1.obj j = s.obj j) →
                  ∃ ρ' r' w', (Builtin.append_ #[t, u] ty #[.slice (some a') n c', y']).run P w = .ok r' w' ∧ VR ρ' (.slice (some ⟨s.next, 0, none⟩) (n + m) unk) r' ∧ ST P ρ s w ρ' (s1.add (.cells (old ++ l).toArray e (0, 0))) w' ∧ (s1.add (.cells (old ++ l).toArray e (0, 0))).next ≤ most := by
                intro old old' hlt ho1 ho2 ho3 ho4 hG s1 hs1 hsub hfix
                simp only [Bool.and_eq_true, Nat.ble_eq] at hG
                obtain ⟨⟨g1, g2⟩, g3⟩ := hG
                have g1' := unblt g1
                have hr := src_append_grow P w t u ty e i z hu hi hzz a' n c' old' ho1 ho4 hsrc hlt (by omega) (growslice_fits hlt (by omega))
                have hge := grownCap_ge w (n + m) c' e
                have hkm : grownCap w (n + m) c' e ≤ 9223372036854775807 := grownCap_le_maxLen w (n + m) c' e (by simp only [maxLen]; omega)
                obtain ⟨ρ', h1, h2, h3⟩ := ST.turn (o := .cells (old ++ l).toArray e (0, 0)) (c := w.heap.size) (k := grownCap w (n + m) c' e) (s1 := s1)
                  (w' := (w.drew.alloc (.cells (old'.toArray ++ l'.toArray ++ Builtin.zeroCells z.cells (grownCap w (n + m) c' e - (n + m))) e)))
                  (o' := .cells (old'.toArray ++ l'.toArray ++ Builtin.zeroCells z.cells (grownCap w (n + m) c' e - (n + m))) e (0, 0)) hz g1' hs1 hsub hfix
                  (fun j _ e => absurd (hz.lt _ _ e) (Nat.lt_irrefl _)) (fun h => absurd h (Nat.lt_irrefl _))
                  (cells_list (l' := old' ++ l') (rest := (Builtin.zeroCells z.cells (grownCap w (n + m) c' e - (n + m))).toList) (by simp; omega) (rows_append (by omega) ho3 hrel) _ (by simp) e)
                  (by show (w.heap.push _)[w.heap.size]? = _; simp)
                  (fun cs e2 f h => by
                    cases h
                    rw [hce, Array.size_append, Array.size_append, size_zeroCells, hzc, List.size_toArray, List.size_toArray, hl', ho1, ← Nat.add_mul, ← Nat.add_mul]
                    exact Nat.mul_le_mul_right _ (by omega))
                  (fun j hj hlt => by show (w.heap.push _)[j]? = _; rw [Array.getElem?_push, if_neg hj]) (by show _ ≤ (w.heap.push _).size; simp) rfl rfl rfl
                exact ⟨ρ', _, _, hr, .slice _ _ _ (mk0 h1) (.inr ⟨0, rfl, by decide, by rw [h2]; rfl, hge⟩), h3, by show s1.next + 1 ≤ most; rw [hs1.1]; exact g1'⟩
              rcases hc with ⟨rfl, hc⟩ | ⟨j, rfl, hj, hcap, hn⟩
              · have hk : Nat.blt c' most = true := Nat.ble_eq_true_of_le hc
                rw [hk] at h
                simp only [cond_true] at h
                cases hroom : Nat.ble (n + m) c' with
                | true =>
                  rw [hroom] at h
                  simp only [cond_true] at h
                  have hnm : n + m ≤ c' := Nat.le_of_ble_eq_true hroom
                  split at h
                  · rename_i cs e' hob
                    cases hG : ((Nat.beq a.off 0 && a.spot.isNone) && (Nat.ble s.ro a.block && oneCells l) && (Nat.beq e' e && Nat.ble (n * i.size + l.length) cs.toList.length)) with
                    | false => rw [hG] at h; cases h
                    | true =>
                    rw [hG] at h
                    simp only [cond_true, Option.some.injEq, Prod.mk.injEq] at h
                    obtain ⟨rfl, rfl⟩ := h
                    simp only [Bool.and_eq_true] at hG
                    obtain ⟨⟨⟨q2, q3⟩, q4, q5⟩, g5, g6⟩ := hG
                    obtain rfl : e' = e := Nat.eq_of_beq_eq_true g5
                    have ha0 := ha
                    cases ha with
                    | @mk b d o sp hb =>
                    dsimp only at q2 q3 q4 hob
                    obtain rfl : o = 0 := Nat.eq_of_beq_eq_true q2
                    obtain rfl : sp = none := by cases sp <;> simp_all
                    have hlt : b < most := ex_lt hz hm hob
                    obtain ⟨d', o', h1, h2, h3, h4, h5⟩ := hz.obj _ _ hob
                    rw [hb] at h1; cases h1
                    rw [h5, Nat.zero_add] at ha0 ⊢
                    cases h3 with
                    | @cells _ cs' _ _ f' hff hsz hall =>
                    obtain rfl : f' = (0, 0) := by rcases hff with ⟨h, _⟩ | ⟨h, _⟩; exact h; cases h
                    have hroom' := h4 cs' e' (0, 0) rfl
                    have g6' : n * i.size + l.length ≤ cs.size := by have := Nat.le_of_ble_eq_true g6; simpa using this
                    have h1c : ∀ u ∈ l', u.oneCell' = true := by
                      intro u hu
                      obtain ⟨k, hk, rfl⟩ := List.getElem_of_mem hu
                      have hk' : k < l.length := by omega
                      refine oneCell_VR (hrel k l[k] l'[k] (List.getElem?_eq_getElem hk') (List.getElem?_eq_getElem hk)) ?_
                      exact List.all_eq_true.1 q5 _ (List.getElem_mem hk')
                    have hll : l.length = l'.length := by omega
                    have hfit : n * i.size + l'.length ≤ cs'.size := by omega
                    have hr := src_append_room P w t u ty e' i hu hi d n c' cs' h2 hsrc h1c hnm hfit
                    have hT := ST.put (P := P) (ρ := ρ) (w' := w.setRow d (cs'.toList.take (n * i.size) ++ l' ++ cs'.toList.drop (n * i.size + l'.length)).toArray) (c := d)
                      (o := .cells (cs.toList.take (n * i.size) ++ l ++ cs.toList.drop (n * i.size + l.length)).toArray e' (0, 0))
                      (o' := .cells (cs'.toList.take (n * i.size) ++ l' ++ cs'.toList.drop (n * i.size + l'.length)).toArray e' (0, 0)) hz hm (by simp [hob]) hb (Nat.le_of_ble_eq_true q4)
                      (.cells e' _ _ (.inl ⟨rfl, by decide⟩) (by simp; omega) fun j x y hx hy => by
                        have hx' : (cs.toList.take (n * i.size) ++ l ++ cs.toList.drop (n * i.size + l.length))[j]? = some x := by simpa using hx
                        have hy' : (cs'.toList.take (n * i.size) ++ l' ++ cs'.toList.drop (n * i.size + l'.length))[j]? = some y := by simpa using hy
                        have hold : ∀ (j : Nat) (x y : Value), (cs.toList.take (n * i.size))[j]? = some x → (cs'.toList.take (n * i.size))[j]? = some y → VR ρ x y := by
                          intro j x y hx hy
                          rw [List.getElem?_take] at hx hy
                          split at hx
                          · rename_i hj
                            rw [if_pos hj] at hy
                            exact hall j x y (by simpa using hx) (by simpa using hy)
                          · cases hx
                        refine rows_append (l := cs.toList.take (n * i.size) ++ l) (l' := cs'.toList.take (n * i.size) ++ l') (by simp; omega) (rows_append (by simp; omega) hold hrel) (fun k u v hu hv => ?_) j x y hx' hy'
                        rw [List.getElem?_drop] at hu hv
                        rw [← hll] at hv
                        exact hall _ u v (by simpa using hu) (by simpa using hv))
                      (setRow_heap w d cs' _ e' _ h2)
                      (fun cs2 e2 f h => by
                        cases h
                        have : (cs'.toList.take (n * i.size) ++ l' ++ cs'.toList.drop (n * i.size + l'.length)).length = cs'.size := by simp; omega
                        simp only [List.size_toArray]
                        rw [this]; exact hroom')
                      (fun j hj => setRow_other w d j _ hj) (by simp [World.setRow]) rfl rfl rfl
                    exact ⟨ρ, _, _, hr, .slice _ _ _ ha0 (.inl ⟨rfl, hc⟩), hT, hm⟩
                  · cases h
                | false =>
                rw [hroom] at h
                simp only [cond_false] at h
                have hlt : c' < n + m := Nat.lt_of_not_le fun hle => by rw [Nat.ble_eq_true_of_le hle] at hroom; cases hroom
                split at h
                · rename_i old hold
                  cases hG : (Nat.blt s.next most && Nat.ble ((n + m) * i.bytes) (2 ^ 47) && Nat.ble (n + m) (2 ^ 40)) with
                  | false => rw [hG] at h; cases h
                  | true =>
                  rw [hG] at h; cases h
                  obtain ⟨old', o1, o2, o3, o4⟩ := readRow_run hz ha hold
                  exact grow old old' hlt o1 o2 o3 o4 hG s ⟨rfl, rfl, rfl⟩ (fun _ _ h => h) (fun _ _ => rfl)
                · cases h
              · have hk : Nat.blt (unk - j) most = false := by
                  cases hb : Nat.blt (unk - j) most with
                  | false => rfl
                  | true => have : unk - j < most := unblt hb
                            simp only [unk, most] at this hj; omega
                rw [hk] at h
                simp only [cond_false] at h
                cases hG : (Nat.beq (unk - j) unk && Nat.beq a.off 0 && a.spot.isNone && Nat.ble s.ro a.block && oneCells l && (Nat.blt s.next most && Nat.ble ((n + m) * i.bytes) (2 ^ 47) && Nat.ble (n + m) (2 ^ 40))) with
                | false => rw [hG] at h; cases h
                | true =>
                rw [hG] at h
                simp only [cond_true] at h
                rw [Bool.and_eq_true, Bool.and_eq_true, Bool.and_eq_true, Bool.and_eq_true, Bool.and_eq_true] at hG
                obtain ⟨⟨⟨⟨⟨q1, q2⟩, q3⟩, q4⟩, q5⟩, q6⟩ := hG
                split at h
                · rename_i cs e' hob
                  cases ha with
                  | @mk b d o sp hb =>
                  dsimp only at q2 q3 q4 hob hcap h
                  obtain rfl : o = 0 := Nat.eq_of_beq_eq_true q2
                  obtain rfl : sp = none := by cases sp <;> simp_all
                  obtain rfl : j = 0 := by
                    have := Nat.eq_of_beq_eq_true q1
                    simp only [unk, most] at this hj; omega
                  cases hG2 : (Nat.beq e' e && Nat.ble (n * i.size) cs.toList.length) with
                  | false => rw [hG2] at h; cases h
                  | true =>
                  rw [hG2] at h
                  simp only [cond_true, Option.some.injEq, Prod.mk.injEq] at h
                  obtain ⟨rfl, rfl⟩ := h
                  simp only [Bool.and_eq_true, Nat.ble_eq] at hG2
                  obtain ⟨g5, g6⟩ := hG2
                  obtain rfl : e' = e := Nat.eq_of_beq_eq_true g5
                  have hlt : b < most := ex_lt hz hm hob
                  obtain ⟨d', o', h1, h2, h3, h4, h5⟩ := hz.obj _ _ hob
                  rw [hb] at h1; cases h1
                  rw [h5, Nat.zero_add] at grow ⊢
                  cases h3 with
                  | @cells _ cs' _ _ f' hff hsz hall =>
                  obtain rfl : f' = (0, 0) := by rcases hff with ⟨h, _⟩ | ⟨h, _⟩; exact h; cases h
                  have hroom := h4 cs' e' (0, 0) rfl
                  rw [hce, ← hcap, Nat.add_zero] at hroom
                  have g6' : n * i.size ≤ cs.size := by simpa using g6
                  have hold : ∀ (j : Nat) (x y : Value), (cs.toList.take (n * i.size))[j]? = some x → (cs'.toList.take (n * i.size))[j]? = some y → VR ρ x y := by
                    intro j x y hx hy
                    rw [List.getElem?_take] at hx hy
                    split at hx
                    · rename_i hj
                      rw [if_pos hj] at hy
                      exact hall j x y (by simpa using hx) (by simpa using hy)
                    · cases hx
                  have hsub : ∀ j oj, (s.del b).obj j = some oj → s.obj j = some oj := by
                    intro j oj hj
                    rw [obj_del s b j hlt] at hj
                    split at hj
                    · cases hj
                    · exact hj
                  have hfix : ∀ j, j < s.ro → (s.del b).obj j = s.obj j := by
                    intro j hj
                    rw [obj_del s b j hlt, if_neg]
                    have := Nat.le_of_ble_eq_true q4
                    omega
                  by_cases hnm : n + m ≤ c'
                  · -- in its place
                    have h1c : ∀ u ∈ l', u.oneCell' = true := by
                      intro u hu
                      obtain ⟨k, hk, rfl⟩ := List.getElem_of_mem hu
                      have hk' : k < l.length := by omega
                      refine oneCell_VR (hrel k l[k] l'[k] (List.getElem?_eq_getElem hk') (List.getElem?_eq_getElem hk)) ?_
                      exact List.all_eq_true.1 q5 _ (List.getElem_mem hk')
                    have hfit : n * i.size + l'.length ≤ cs'.size := by
                      rw [hl', ← Nat.add_mul]
                      exact Nat.le_trans (Nat.mul_le_mul_right _ hnm) hroom
                    have hr := src_append_room P w t u ty e' i hu hi d n c' cs' h2 hsrc h1c hnm hfit
                    have hkm : c' ≤ 9223372036854775807 := by have := ρ.small b; omega
                    have hmm : s.next < most := by
                      rw [Bool.and_eq_true, Bool.and_eq_true] at q6
                      exact unblt q6.1.1
                    obtain ⟨ρ', k1, k2, k3⟩ := ST.turn (o := .cells (cs.toList.take (n * i.size) ++ l).toArray e' (0, 0)) (c := d) (k := c') (s1 := s.del b)
                      (w' := w.setRow d (cs'.toList.take (n * i.size) ++ l' ++ cs'.toList.drop (n * i.size + l'.length)).toArray)
                      (o' := .cells (cs'.toList.take (n * i.size) ++ l' ++ cs'.toList.drop (n * i.size + l'.length)).toArray e' (0, 0)) hz hmm ⟨rfl, rfl, rfl⟩ hsub hfix
                      (fun j hj ej => by
                        rw [obj_del s b j hlt] at hj
                        split at hj
                        · cases hj
                        · rename_i hjb
                          exact hjb (hz.inj j b d hj (by simp [hob]) ej hb))
                      (fun _ => ⟨b, Nat.le_of_ble_eq_true q4, by simp [hob], hb⟩)
                      (cells_list (l' := cs'.toList.take (n * i.size) ++ l') (rest := cs'.toList.drop (n * i.size + l'.length)) (by simp; omega) (rows_append (by simp; omega) hold hrel) _ (by simp) e')
                      (setRow_heap w d cs' _ e' _ h2)
                      (fun cs2 e2 f h => by
                        cases h
                        rw [hce]
                        have : (cs'.toList.take (n * i.size) ++ l' ++ cs'.toList.drop (n * i.size + l'.length)).length = cs'.size := by simp; omega
                        simp only [List.size_toArray]
                        rw [this]; exact hroom)
                      (fun j hj _ => setRow_other w d j _ hj) (by simp [World.setRow]) rfl rfl rfl
                    exact ⟨ρ', _, _, hr, .slice _ _ _ (mk0 k1) (.inr ⟨0, rfl, by decide, by rw [k2]; rfl, hnm⟩), k3, hmm⟩
                  · exact grow (cs.toList.take (n * i.size)) (cs'.toList.take (n * i.size)) (by omega) (by simp; omega) (by simp; omega) hold
                      (fun j u hu => by
                        rw [List.getElem?_take] at hu
                        split at hu
                        · have e1 : (⟨d, 0, none⟩ : Addr).add j = ⟨d, j, none⟩ := by unfold Addr.add; split <;> simp_all
                          rw [e1, cell_of h2]; simpa using hu
                        · cases hu) q6 (s.del b) ⟨rfl, rfl, rfl⟩ hsub hfix
                · cases h
            · cases h
        · cases h
      · cases h
    · cases h
  · cases h

end
end
end Go.Proofs.YtdcjkglhhmnjiaaGreatDoor.Sx
