/- One string put at the head of a row of strings whose room is not told (slices.Insert): one step of the small memory. -/
import Derived.Test.YtdcjkglhhmnjiaaGreatDoorSyR
import Derived.Test.YtdcjkglhhmnjiaaGreatDoorProg
import Derived.Shelf.Lay
import Derived.Shelf.LaySoft
import Derived.Ground.Names2Prog
import Derived.Shelf.Spec.SlicesInsert
import Derived.Shelf.Spec.SlicesInsertGrow
namespace Go.Proofs.YtdcjkglhhmnjiaaGreatDoor
open Go.Shelf
shelf_lay Lays2.n22 Nm2 22 at Tryz as Tryz.laysIns
namespace Sx
noncomputable section

def told (args : Array Value) : Bool := match args.toList with
  | .slice (some _) _ c :: _ => !(Nat.beq c unk)
  | _ => true

def insA (E : TypeId) (args : Array Value) (s : St) : Option (Value × St) :=
  match args.toList with
  | [.slice (some a) n c, .int .i64 (.ofNat i), .slice (some a2) m _] =>
    bif ((Nat.beq c unk && (Nat.beq i 0 && Nat.beq m 1)) && ((Nat.beq a.off 0 && a.spot.isNone) && a2.spot.isNone)) && (((Nat.ble s.ro a.block && Nat.blt 0 n) && (Nat.blt s.next most && Nat.ble (n + 1) (2 ^ 40))) && !(Nat.beq a.block a2.block)) then
      match s.obj a.block, s.obj a2.block with
      | some (.cells cs e (0, 0)), some (.cells cs2 _ (0, 0)) => bif (Nat.beq e E && Nat.ble n cs.toList.length) && oneCells cs.toList then
          match cs2.toList[a2.off]? with
          | some (.string x) => some (.slice (some ⟨s.next, 0, none⟩) (n + 1) unk, (s.del a.block).add (.cells (.string x :: cs.toList.take n).toArray e (0, 0)))
          | _ => none
        else none
      | _, _ => none
    else none
  | _ => none

theorem heap_setCells (b : Nat) (e : TypeId) (f : Nat × Nat) : ∀ (vs : List Value) (o : Nat) (w : World) (cs : Array Value), w.heap[b]? = some (.cells cs e f) →
    ∃ cs' : Array Value, (w.setCells b o vs).heap[b]? = some (.cells cs' e f) ∧ cs'.size = cs.size ∧ ∀ j, cs'[j]? = if o ≤ j ∧ j < o + vs.length ∧ j < cs.size then vs[j - o]? else cs[j]?
  | [], o, w, cs, h => ⟨cs, h, rfl, fun j => by rw [if_neg (by simp only [List.length_nil]; omega)]⟩
  | v :: r, o, w, cs, h => by
    have h1 : (w.setCell ⟨b, o, none⟩ v).heap[b]? = some (.cells (cs.setIfInBounds o v) e f) := by
      simp [World.setCell, Array.getElem?_modify, h]
    obtain ⟨cs', k1, k2, k3⟩ := heap_setCells b e f r (o + 1) (w.setCell ⟨b, o, none⟩ v) _ h1
    refine ⟨cs', k1, by rw [k2]; simp, fun j => ?_⟩
    rw [k3 j]
    simp only [Array.size_setIfInBounds, List.length_cons]
    by_cases h2 : o + 1 ≤ j ∧ j < o + 1 + r.length ∧ j < cs.size
    · rw [if_pos h2, if_pos (by omega), show j - o = (j - (o + 1)) + 1 by omega, List.getElem?_cons_succ]
    · rw [if_neg h2, Array.getElem?_setIfInBounds]
      by_cases h3 : o = j
      · subst h3
        by_cases h4 : o < cs.size
        · rw [if_pos rfl, if_pos h4, if_pos (by omega)]; simp
        · rw [if_pos rfl, if_neg h4, if_neg (by omega), Array.getElem?_eq_none (by omega)]
      · rw [if_neg h3, if_neg (by omega)]

theorem setCells_else (b : Nat) : ∀ (vs : List Value) (o : Nat) (w : World), (∀ i, i ≠ b → (w.setCells b o vs).heap[i]? = w.heap[i]?) ∧ (w.setCells b o vs).heap.size = w.heap.size ∧ (w.setCells b o vs).os = w.os ∧ (w.setCells b o vs).tape = w.tape ∧ (w.setCells b o vs).output = w.output
  | [], _, _ => ⟨fun _ _ => rfl, rfl, rfl, rfl, rfl⟩
  | v :: r, o, w => by
    obtain ⟨k1, k2, k3, k4, k5⟩ := setCells_else b r (o + 1) (w.setCell ⟨b, o, none⟩ v)
    refine ⟨fun i hi => ?_, by rw [World.setCells, k2]; simp [World.setCell], by rw [World.setCells, k3]; rfl, by rw [World.setCells, k4]; rfl, by rw [World.setCells, k5]; rfl⟩
    rw [World.setCells, k1 i hi]
    simp [World.setCell, Array.getElem?_modify, Ne.symm hi]

theorem insA_ok {P : Program} {R : Ren} (L : Lays2.n22 P R) {args : Array Value} {s s' : St} {v : Value} (h : insA (R.t 9) args s = some (v, s')) {ρ : Rho} {w : World} {args' : Array Value}
    (hargs : VsR ρ args args') (hz : RZ P ρ s w) (hm : s.next ≤ most) :
    Calls P (R.f 22) args' w fun e w' => ∃ v' ρ', e = .returned v' ∧ VR ρ' v v' ∧ ST P ρ s w ρ' s' w' ∧ s'.next ≤ most := by
  unfold insA at h
  split at h
  · rename_i a n c i a2 m c2 hal
    have hae : args = #[.slice (some a) n c, .int .i64 (.ofNat i), .slice (some a2) m c2] := by rw [← Array.toList_inj, hal]
    subst hae
    have hsz : args'.size = 3 := by rw [← hargs.1]; rfl
    obtain ⟨x', y', z', rfl⟩ : ∃ x' y' z', args' = #[x', y', z'] := by
      rcases args' with ⟨l⟩
      match l, hsz with
      | [a, b, c], _ => exact ⟨a, b, c, rfl⟩
    have hx := hargs.2 0 _ x' rfl rfl
    have hy := hargs.2 1 _ y' rfl rfl
    have hv := hargs.2 2 _ z' rfl rfl
    cases hG : (((Nat.beq c unk && (Nat.beq i 0 && Nat.beq m 1)) && ((Nat.beq a.off 0 && a.spot.isNone) && a2.spot.isNone)) && (((Nat.ble s.ro a.block && Nat.blt 0 n) && (Nat.blt s.next most && Nat.ble (n + 1) (2 ^ 40))) && !(Nat.beq a.block a2.block))) with
    | false => rw [hG] at h; cases h
    | true =>
    rw [hG] at h
    simp only [cond_true] at h
    simp only [Bool.and_eq_true, Nat.ble_eq] at hG
    obtain ⟨⟨⟨g1, g2, g3⟩, ⟨g4, g5⟩, g6⟩, ⟨⟨g7, g8⟩, g9, g10⟩, g11⟩ := hG
    obtain rfl := Nat.eq_of_beq_eq_true g2
    obtain rfl := Nat.eq_of_beq_eq_true g3
    have g8' : 0 < n := unblt g8
    have hmm : s.next < most := unblt g9
    cases hy
    cases hx with
    | void _ a' c' =>
      have hk2 : Nat.beq (unk + 1) unk = false := rfl
      rw [hk2] at g1; cases g1
    | @slice _ a' _ _ c' ha hc =>
    cases hv with
    | @slice _ a2' _ _ c2' ha2 hc2 =>
    rcases hc with ⟨rfl, hc⟩ | ⟨j, rfl, hj, hcap, hn⟩
    · have := Nat.eq_of_beq_eq_true g1
      simp only [unk, most] at this hc; omega
    obtain rfl : j = 0 := by
      have := Nat.eq_of_beq_eq_true g1
      simp only [unk, most] at this hj; omega
    cases ha with
    | @mk b d o sp hb =>
    cases ha2 with
    | @mk b2 d2 o2 sp2 hb2 =>
    dsimp only at g4 g5 g6 g7 g11 hcap h
    obtain rfl : o = 0 := Nat.eq_of_beq_eq_true g4
    obtain rfl : sp = none := by cases sp <;> simp_all
    obtain rfl : sp2 = none := by cases sp2 <;> simp_all
    have hbb : b ≠ b2 := fun e => by subst e; simp at g11
    split at h
    · rename_i cs e cs2 e2 hob hob2
      cases hG2 : ((Nat.beq e (R.t 9) && Nat.ble n cs.toList.length) && oneCells cs.toList) with
      | false => rw [hG2] at h; cases h
      | true =>
      rw [hG2] at h
      simp only [cond_true] at h
      simp only [Bool.and_eq_true, Nat.ble_eq] at hG2
      obtain ⟨⟨q1, q2⟩, q3⟩ := hG2
      obtain rfl : e = R.t 9 := Nat.eq_of_beq_eq_true q1
      split at h
      · rename_i x hx2
        simp only [Option.some.injEq, Prod.mk.injEq] at h
        obtain ⟨rfl, rfl⟩ := h
        have hlt : b < most := ex_lt hz hm hob
        obtain ⟨d', o', h1, h2, h3, h4, h5⟩ := hz.obj _ _ hob
        rw [hb] at h1; cases h1
        obtain ⟨d2', o2', k1, k2, k3, k4, k5⟩ := hz.obj _ _ hob2
        rw [hb2] at k1; cases k1
        cases h3 with
        | @cells _ cs' _ _ f' hff hsz hall =>
        obtain rfl : f' = (0, 0) := by rcases hff with ⟨h, _⟩ | ⟨h, _⟩; exact h; cases h
        cases k3 with
        | @cells _ cs2' _ _ f2' hff2 hsz2 hall2 =>
        obtain rfl : f2' = (0, 0) := by rcases hff2 with ⟨h, _⟩ | ⟨h, _⟩; exact h; cases h
        rw [h5, k5, Nat.zero_add, Nat.zero_add]
        have hne : d2 ≠ d := fun ed => hbb (hz.inj b b2 d (by simp [hob]) (by simp [hob2]) hb (ed ▸ hb2))
        have hce : cellsOf P (R.t 9) = 1 := by
          cases hi : P.info? (R.t 9) with
          | none => have := L.i9; rw [hi] at this; cases this
          | some i => have := L.i9; rw [hi] at this; simp at this; simp [cellsOf, hi, this]
        have hroom := h4 cs' (R.t 9) (0, 0) rfl
        rw [hce, Nat.mul_one] at hroom
        have hkm : c' ≤ 9223372036854775807 := by have := ρ.small b; omega
        have hn1 : n ≤ cs.size := by simpa using q2
        have hn2 : n ≤ cs'.size := by omega
        obtain ⟨cl, hcld⟩ : ∃ l, l = cs'.toList.take n := ⟨_, rfl⟩
        have hcl : cl.length = n := by rw [hcld]; simp; omega
        have hclj : ∀ j, j < n → cl[j]? = cs'[j]? := fun j hj => by rw [hcld, List.getElem?_take, if_pos hj]; simp
        have hx3 : cs2[o2]? = some (.string x) := by simpa using hx2
        have ho2 : o2 < cs2.size := (Array.getElem?_eq_some_iff.1 hx3).1
        have hx4 : cs2'[o2]? = some (.string x) := by
          obtain ⟨y, hy⟩ : ∃ y, cs2'[o2]? = some y := ⟨_, Array.getElem?_eq_getElem (by omega)⟩
          have hv3 := hall2 o2 _ _ hx3 hy
          rw [hy]
          cases hv3; rfl
        have h1c : ∀ u ∈ cl, u.oneCell' = true := by
          intro u hu
          obtain ⟨k, hk, rfl⟩ := List.getElem_of_mem hu
          have hk1 : k < n := by omega
          have e1 : cs'[k]? = some cl[k] := by rw [← hclj k hk1]; exact List.getElem?_eq_getElem hk
          refine oneCell_VR (hall k (cs[k]'(by omega)) _ (Array.getElem?_eq_getElem _) e1) ?_
          exact List.all_eq_true.1 q3 _ (by simp)
        have hcs : ∀ j u, cl[j]? = some u → w.cell? ⟨d, 0 + j, none⟩ = some u := fun j u hu => by
          have hj : j < n := by have := (List.getElem?_eq_some_iff.1 hu).1; omega
          rw [Nat.zero_add, cell_of h2, ← hclj j hj]; exact hu
        have hvs : ∀ j u, [Value.string x][j]? = some u → w.cell? ⟨d2, o2 + j, none⟩ = some u := fun j u hu => by
          cases j with
          | zero => cases hu; rw [Nat.add_zero, cell_of k2]; exact hx4
          | succ j => cases hu
        have h1v : ∀ u ∈ [Value.string x], u.oneCell' = true := fun u hu => by simp at hu; subst hu; rfl
        have hOR : ∀ (csB : Array Value), n + 1 ≤ csB.size → csB[0]? = some (.string x) → (∀ j, j < n → csB[j + 1]? = cs'[j]?) → OR ρ (.cells (.string x :: cs.toList.take n).toArray (R.t 9) (0, 0)) (.cells csB (R.t 9) (0, 0)) := fun csB b1 b2 b3 =>
          .cells (R.t 9) _ _ (.inl ⟨rfl, by decide⟩) (by simp; omega) fun j p q hp hq => by
            have hp' : (Value.string x :: cs.toList.take n)[j]? = some p := by simpa using hp
            cases j with
            | zero => simp at hp'; subst hp'; rw [b2] at hq; cases hq; exact .string x
            | succ j =>
              rw [List.getElem?_cons_succ, List.getElem?_take] at hp'
              split at hp'
              · rename_i hj
                rw [b3 j hj] at hq
                exact hall j p q (by simpa using hp') hq
              · cases hp'
        have mk0 : ∀ {ρ' : Rho} {c : Nat}, (ρ'.at_ s.next = some c ∧ ρ'.off s.next = 0) → AR ρ' ⟨s.next, 0, none⟩ ⟨c, 0, none⟩ := fun {ρ' c} hq => by
          have := @AR.mk ρ' s.next c 0 none hq.1
          rw [hq.2, Nat.zero_add] at this; exact this
        have hsub : ∀ j oj, (s.del b).obj j = some oj → s.obj j = some oj := by
          intro j oj hj
          rw [obj_del s b j hlt] at hj
          split at hj
          · cases hj
          · exact hj
        have hfix : ∀ j, j < s.ro → (s.del b).obj j = s.obj j := by
          intro j hj
          rw [obj_del s b j hlt, if_neg]
          omega
        by_cases hnm : n + 1 ≤ c'
        · have key := Any2.slices_Insert_string_shift L d 0 n c' 0 d2 o2 1 c2' cl [.string x] w g8' Nat.zero_lt_one hnm hkm hne hcl rfl hcs
            (fun j hj => by rw [Nat.zero_add, cell_of h2, Array.getElem?_eq_getElem (by omega)]; rfl) (fun j hj => by rw [frozen_of h2]; simp) hvs h1c h1v
            e2 (R.t 9) cs2'.size cs'.size (by unfold World.shape?; rw [k2]) (by unfold World.shape?; rw [h2]) (by omega) (by rw [frozen_of k2]; simp) (by rw [frozen_of k2]; simp)
          refine Calls.mono key ?_
          rintro e1 w1 ⟨he, hw⟩
          obtain ⟨csA, p1, p2, p3⟩ := heap_setCells d (R.t 9) (0, 0) (cl.drop 0) (0 + (0 + 1)) w.drew cs' h2
          obtain ⟨csB, r1, r2, r3⟩ := heap_setCells d (R.t 9) (0, 0) [.string x] (0 + 0) _ csA p1
          obtain ⟨a1, a2, a3, a4, a5⟩ := setCells_else d (cl.drop 0) (0 + (0 + 1)) w.drew
          obtain ⟨b1, b2, b3, b4, b5⟩ := setCells_else d [.string x] (0 + 0) (w.drew.setCells d (0 + (0 + 1)) (cl.drop 0))
          rw [← hw] at r1 b1 b2 b3 b4 b5
          have hsB : csB.size = cs'.size := r2.trans p2
          have hB0 : csB[0]? = some (.string x) := by rw [r3 0, if_pos (by simp; omega)]; rfl
          have hBs : ∀ j, j < n → csB[j + 1]? = cs'[j]? := fun j hj => by
            rw [r3 (j + 1), if_neg (by simp), p3 (j + 1), if_pos (by simp; omega)]
            simp only [List.drop_zero, Nat.zero_add, Nat.add_sub_cancel]
            exact hclj j hj
          obtain ⟨ρ', t1, t2, t3⟩ := ST.turn (o := .cells (.string x :: cs.toList.take n).toArray (R.t 9) (0, 0)) (c := d) (k := c') (s1 := s.del b) (w' := w1) (o' := .cells csB (R.t 9) (0, 0)) hz hmm ⟨rfl, rfl, rfl⟩ hsub hfix
            (fun j hj ej => by
              rw [obj_del s b j hlt] at hj
              split at hj
              · cases hj
              · rename_i hjb
                exact hjb (hz.inj j b d hj (by simp [hob]) ej hb))
            (fun _ => ⟨b, g7, by simp [hob], hb⟩) (hOR csB (by omega) hB0 hBs) r1
            (fun cs3 e3 f h => by cases h; rw [hce]; omega)
            (fun j hj _ => (b1 j hj).trans (a1 j hj)) (by rw [b2, a2]; exact Nat.le_refl _) (b3.trans a3) (b4.trans a4) (b5.trans a5)
          exact ⟨_, ρ', he, .slice _ _ _ (mk0 t1) (.inr ⟨0, rfl, by decide, by rw [t2]; rfl, hnm⟩), t3, hmm⟩
        · have key := Any2.slices_Insert_string_grow L d 0 n c' 0 d2 o2 1 c2' cl [.string x] w g8' Nat.zero_lt_one hn (by omega) (by omega) hcl rfl hcs hvs h1c h1v
          refine Calls.mono key ?_
          rintro e1 w1 ⟨he, hw⟩
          have hge := grownCap_ge w (n + 1) c' (R.t 9)
          have hkm2 : grownCap w (n + 1) c' (R.t 9) ≤ 9223372036854775807 := grownCap_le_maxLen w (n + 1) c' (R.t 9) (by simp only [maxLen]; omega)
          obtain ⟨A, hA⟩ : ∃ A : Array Value, A = (cl.take 0).toArray ++ Builtin.zeroCells (Value.string ⟨#[]⟩).cells (n + 1 - 0) ++ Builtin.zeroCells (Value.string ⟨#[]⟩).cells (grownCap w (n + 1) c' (R.t 9) - (n + 1)) := ⟨_, rfl⟩
          have hsA : A.size = grownCap w (n + 1) c' (R.t 9) := by
            have : (Value.string ⟨#[]⟩).cells.size = 1 := rfl
            rw [hA, Array.size_append, Array.size_append, size_zeroCells, size_zeroCells, this]
            simp; omega
          rw [← hA] at hw
          have hal : (w.alloc (.cells A (R.t 9))).drew.heap[w.heap.size]? = some (.cells A (R.t 9) (0, 0)) := by show (w.heap.push _)[w.heap.size]? = _; simp
          obtain ⟨csA, p1, p2, p3⟩ := heap_setCells w.heap.size (R.t 9) (0, 0) [.string x] 0 _ A hal
          obtain ⟨csB, r1, r2, r3⟩ := heap_setCells w.heap.size (R.t 9) (0, 0) (cl.drop 0) (0 + 1) ((w.alloc (.cells A (R.t 9))).drew.setCells w.heap.size 0 [.string x]).drew csA p1
          obtain ⟨a1, a2, a3, a4, a5⟩ := setCells_else w.heap.size [.string x] 0 (w.alloc (.cells A (R.t 9))).drew
          obtain ⟨b1, b2, b3, b4, b5⟩ := setCells_else w.heap.size (cl.drop 0) (0 + 1) ((w.alloc (.cells A (R.t 9))).drew.setCells w.heap.size 0 [.string x]).drew
          rw [← hw] at r1 b1 b2 b3 b4 b5
          have hsB : csB.size = grownCap w (n + 1) c' (R.t 9) := (r2.trans p2).trans hsA
          have hB0 : csB[0]? = some (.string x) := by rw [r3 0, if_neg (by simp), p3 0, if_pos (by simp; omega)]; rfl
          have hBs : ∀ j, j < n → csB[j + 1]? = cs'[j]? := fun j hj => by
            rw [r3 (j + 1), if_pos (by simp; omega)]
            simp only [List.drop_zero, Nat.zero_add, Nat.add_sub_cancel]
            exact hclj j hj
          obtain ⟨ρ', t1, t2, t3⟩ := ST.turn (o := .cells (.string x :: cs.toList.take n).toArray (R.t 9) (0, 0)) (c := w.heap.size) (k := grownCap w (n + 1) c' (R.t 9)) (s1 := s.del b) (w' := w1) (o' := .cells csB (R.t 9) (0, 0)) hz hmm ⟨rfl, rfl, rfl⟩ hsub hfix
            (fun j _ e => absurd (hz.lt _ _ e) (Nat.lt_irrefl _)) (fun h => absurd h (Nat.lt_irrefl _)) (hOR csB (by omega) hB0 hBs) r1
            (fun cs3 e3 f h => by cases h; rw [hce]; omega)
            (fun j hj hjl => ((b1 j hj).trans (a1 j hj)).trans (by show (w.heap.push _)[j]? = _; rw [Array.getElem?_push, if_neg hj]))
            (by rw [b2]; show _ ≤ (World.setCells _ _ _ _).heap.size; rw [a2]; show _ ≤ (w.heap.push _).size; simp) (b3.trans a3) (b4.trans a4) (b5.trans a5)
          exact ⟨_, ρ', he, .slice _ _ _ (mk0 t1) (.inr ⟨0, rfl, by decide, by rw [t2]; rfl, hge⟩), t3, hmm⟩
      · cases h
    · cases h
  · cases h
end
end Sx
end Go.Proofs.YtdcjkglhhmnjiaaGreatDoor
