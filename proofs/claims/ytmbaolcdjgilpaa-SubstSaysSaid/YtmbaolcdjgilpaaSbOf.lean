/- subst.Of: each variable its type, in memory of its own. -/
import Derived.Test.YtmbaolcdjgilpaaSbApp
import Derived.Shelf.SlicesE.Clone
namespace Go.Proofs.Ytmbaolcdjgilpaa
open Go.RowKit Go.Sort Go.Lib
attribute [local go_sem] Oper.semAt_some

def cloneRen : Go.Shelf.Ren := ⟨fun | 41 => 30 | n => n, fun | 4 => 4 | 22 => 28 | 23 => 58 | n => n, fun n => n⟩
theorem cloneLay : SlLaysE0.n41 Try.prog cloneRen :=
  { mixed := by kernel_rfl
    f41 := ⟨Try.f30.name, by decide, by kernel_rfl⟩
    t4 := by kernel_rfl
    a4 := fun _ => by kernel_rfl
    z4 := fun _ => by kernel_rfl
    v4 := fun _ => by kernel_rfl
    t22 := by kernel_rfl
    a22 := fun _ => by kernel_rfl
    z22 := fun _ => by kernel_rfl
    v22 := fun _ => by kernel_rfl }
theorem Try.infoPair : (Try.prog.info? 58).map (fun i => (i.zero, i.size, i.bytes)) = some (some (.agg zeroP), 4, 64) := by kernel_rfl
theorem flat_one (d : List PR) : ∀ u ∈ (flatK encP 4 d.toArray).toList, u.oneCell' = true := by
  intro u hu
  simp only [flatK, Array.toList_map, List.mem_map] at hu
  obtain ⟨i, _, rfl⟩ := hu
  have h4 : i % 4 < (encP (d.toArray[i / 4]!)).length := Nat.mod_lt _ (by decide)
  rw [getElem!_pos (encP (d.toArray[i / 4]!)) (i % 4) h4]
  exact encP_one _ _ (List.getElem_mem _)
theorem clone_some (g cap : Nat) (d : List PR) (w : World) (h : RowP g d w) (h0 : d ≠ []) (hl : d.length ≤ 1000000) :
    Calls Try.prog 30 #[.slice (some ⟨g, 0, none⟩) d.length cap] w fun e w' =>
      (∃ g' cap', (e = .returned (.slice (some ⟨g', 0, none⟩) d.length cap') ∧ d.length ≤ cap') ∧ w.heap.size ≤ g' ∧ RowP g' d w') ∧ Below w.heap.size w w' := by
  obtain ⟨i, hi, hzz⟩ := Option.map_eq_some_iff.1 Try.infoPair
  simp only [Prod.mk.injEq] at hzz
  obtain ⟨hz, hs, hb⟩ := hzz
  have hfl : (flatK encP 4 d.toArray).toList.length = d.length * 4 := by simp
  have hm : (1000000 : Nat) ≤ maxLen := by decide
  have hc : ∀ j u, (flatK encP 4 d.toArray).toList[j]? = some u → w.cell? ⟨g, 0 + j, none⟩ = some u := by
    intro j u hu
    obtain ⟨hj, e⟩ := List.getElem?_eq_some_iff.1 hu
    have hj' : j < (flatK encP 4 d.toArray).size := by simpa using hj
    rw [(h.holds j hj').1, getElem!_pos _ j hj']
    simpa using e
  have main : Calls Try.prog 30 _ _ _ := AnyE.slices_Clone cloneLay i (.agg zeroP) 4 64 hi hz hs hb (by rfl) (by decide) (fun _ => by kernel_rfl) g 0 d.length cap (flatK encP 4 d.toArray).toList w hfl (by omega) (by omega) hc (flat_one d)
  refine main.mono ?_
  rintro e w' ⟨v', rfl, ⟨_, ⟨_, hn⟩ | ⟨g', cap', cur, rfl, hg', hcur, hcap, _, hsz, htk⟩⟩, _, hb⟩
  · exact absurd (List.length_eq_zero_iff.1 hn) h0
  · refine ⟨⟨g', cap', ⟨rfl, hcap⟩, hg', ⟨cur, hcur, ?_, fun k hk => ?_⟩⟩, hb⟩
    · rw [hsz]; exact Nat.mul_le_mul_right 4 hcap
    · have hbg : d.toArray[k]! = d.getD k noP := (getD_list d k hk).symm
      have key : ∀ c, c < 4 → cur[k * 4 + c]? = some ((encP (d.getD k noP))[c]!) := by
        intro c hc4
        have hlt : k * 4 + c < d.length * 4 := by omega
        have e1 : (cur.toList.take (d.length * 4))[k * 4 + c]? = cur[k * 4 + c]? := by rw [List.getElem?_take_of_lt hlt]; simp
        rw [← e1, htk]
        have hF : k * 4 + c < (flatK encP 4 d.toArray).size := by simpa using hlt
        have e2 := get_flatK encP 4 d.toArray (k * 4 + c) (by simpa using hlt)
        rw [show (k * 4 + c) / 4 = k by omega, show (k * 4 + c) % 4 = c by omega, hbg, getElem!_pos (flatK encP 4 d.toArray) (k * 4 + c) hF] at e2
        rw [List.getElem?_eq_getElem (by simpa using hlt), ← e2]
        simp
      exact ⟨by simpa [encP] using key 0 (by decide), key 1 (by decide), key 2 (by decide), key 3 (by decide)⟩
theorem clone_nil (w : World) : Calls Try.prog 30 #[.slice none 0 0] w fun e w' => e = .returned (.slice none 0 0) ∧ w' = w :=
  AnyE.slices_Clone_nil cloneLay 0 0 w

/-- One list in another's place: the same names and types, elsewhere. -/
def Copy (l m : List PR) : Prop := l.length = m.length ∧ ∀ i, i < l.length → (l.getD i noP).n = (m.getD i noP).n ∧ (l.getD i noP).t = (m.getD i noP).t
theorem Copy.refl (l : List PR) : Copy l l := ⟨rfl, fun _ _ => ⟨rfl, rfl⟩⟩
theorem Copy.cons {x y : PR} {l m : List PR} (h : Copy (x :: l) (y :: m)) : (x.n = y.n ∧ x.t = y.t) ∧ Copy l m := by
  obtain ⟨h1, h2⟩ := h
  refine ⟨by simpa [List.getD] using h2 0 (by simp), by simpa using h1, fun i hi => by simpa [List.getD] using h2 (i + 1) (by simpa using hi)⟩
theorem Copy.lk {n : ByteArray} : ∀ {l m : List PR}, Copy l m → (lk n l).map PR.t = (lk n m).map PR.t
  | [], [], _ => rfl
  | [], _ :: _, h => absurd h.1 (by simp)
  | _ :: _, [], h => absurd h.1 (by simp)
  | x :: l, y :: m, h => by
    obtain ⟨⟨h1, h2⟩, h3⟩ := h.cons
    rw [lk_cons, lk_cons, h1]
    by_cases e : y.n = n
    · rw [if_pos e, if_pos e]; simp [h2]
    · rw [if_neg e, if_neg e]; exact h3.lk
theorem Copy.mem : ∀ {l m : List PR}, Copy l m → ∀ x ∈ l, ∃ y ∈ m, x.n = y.n ∧ x.t = y.t
  | [], _, _, x, hx => by cases hx
  | _ :: _, [], h, _, _ => absurd h.1 (by simp)
  | z :: l, y :: m, h, x, hx => by
    obtain ⟨h1, h3⟩ := h.cons
    rcases List.mem_cons.1 hx with rfl | hx
    · exact ⟨y, List.mem_cons_self .., h1⟩
    · obtain ⟨u, hu, e⟩ := h3.mem x hx
      exact ⟨u, List.mem_cons_of_mem _ hu, e⟩
theorem Copy.sorted : ∀ {l m : List PR}, Copy l m → Sorted m → Sorted l
  | [], _, _, _ => List.Pairwise.nil
  | _ :: _, [], h, _ => absurd h.1 (by simp)
  | x :: l, y :: m, h, hs => by
    obtain ⟨⟨h1, _⟩, h3⟩ := h.cons
    have hs' := List.pairwise_cons.1 hs
    refine List.pairwise_cons.2 ⟨fun z hz => ?_, h3.sorted hs'.2⟩
    obtain ⟨u, hu, e, _⟩ := h3.mem z hz
    have := hs'.1 u hu
    unfold cmpP at this ⊢
    rw [h1, e]; exact this
theorem Copy.neat {l m : List PR} (h : Copy l m) (hn : Neat m) : Neat l := by
  refine ⟨h.sorted hn.1, fun x hx => ?_⟩
  obtain ⟨y, hy, e1, e2⟩ := h.mem x hx
  have := hn.2 y hy
  cases ho : ownP x with
  | false => rfl
  | true =>
    have h1 := ownP_iff.1 ho
    rw [e1, e2] at h1
    rw [ownP_iff.2 h1] at this
    cases this
/-- What is made of a list of pairs. -/
structure Made (d l : List PR) : Prop where
  sub : ∀ x ∈ l, ∃ y ∈ d, x.n = y.n ∧ x.t = y.t
  len : l.length ≤ d.length
  same : ∀ n, ty n l = ty n d
theorem Gath.made {d l m : List PR} (h : Gath d l) (k : Copy m l) : Made d m :=
  ⟨fun x hx => by obtain ⟨y, hy, e⟩ := k.mem x hx; exact ⟨y, h.sub y hy, e⟩, by rw [k.1]; exact h.len, fun n => by rw [← h.same n]; unfold ty; rw [k.lk]⟩

theorem RowP.setT {g : Nat} {l : List PR} {w : World} (h : RowP g l w) (i : Nat) (x : PR) (hn : i < l.length → (l.getD i noP).n = x.n) :
    RowP g (l.set i x) (((w.setCell ⟨g, i * 4 + 1, none⟩ (.int .i64 x.t.kind)).setCell ⟨g, i * 4 + 1 + 1, none⟩ (.string x.t.name)).setCell ⟨g, i * 4 + 1 + 2, none⟩ (.slice x.a x.t.kids.length x.c)) := by
  obtain ⟨cs, h1, h2, h3⟩ := h
  refine ⟨((cs.setIfInBounds (i * 4 + 1) (.int .i64 x.t.kind)).setIfInBounds (i * 4 + 1 + 1) (.string x.t.name)).setIfInBounds (i * 4 + 1 + 2) (.slice x.a x.t.kids.length x.c), blk_set (blk_set (blk_set h1 _) _) _, by simpa using h2, fun j hj => ?_⟩
  have hj' : j < l.length := by simpa using hj
  by_cases e : j = i
  · subst e
    have e2 : (l.set j x).getD j noP = x := by simp [List.getD, hj']
    rw [e2]
    obtain ⟨a1, _⟩ := h3 j hj'
    rw [hn hj'] at a1
    refine ⟨?_, ?_, ?_, ?_⟩
    · rw [Array.getElem?_setIfInBounds_ne (by omega), Array.getElem?_setIfInBounds_ne (by omega), Array.getElem?_setIfInBounds_ne (by omega)]; exact a1
    · rw [Array.getElem?_setIfInBounds_ne (by omega), Array.getElem?_setIfInBounds_ne (by omega)]; simp [Array.getElem?_setIfInBounds]; omega
    · rw [Array.getElem?_setIfInBounds_ne (by omega)]; simp [Array.getElem?_setIfInBounds]; omega
    · simp [Array.getElem?_setIfInBounds]; omega
  · have e2 : (l.set i x).getD j noP = l.getD j noP := by simp [List.getD, Ne.symm e]
    rw [e2]
    obtain ⟨a1, a2, a3, a4⟩ := h3 j hj'
    refine ⟨?_, ?_, ?_, ?_⟩
    · rw [Array.getElem?_setIfInBounds_ne (by omega), Array.getElem?_setIfInBounds_ne (by omega), Array.getElem?_setIfInBounds_ne (by omega)]; exact a1
    · rw [Array.getElem?_setIfInBounds_ne (by omega), Array.getElem?_setIfInBounds_ne (by omega), Array.getElem?_setIfInBounds_ne (by omega)]; exact a2
    · rw [Array.getElem?_setIfInBounds_ne (by omega), Array.getElem?_setIfInBounds_ne (by omega), Array.getElem?_setIfInBounds_ne (by omega)]; exact a3
    · rw [Array.getElem?_setIfInBounds_ne (by omega), Array.getElem?_setIfInBounds_ne (by omega), Array.getElem?_setIfInBounds_ne (by omega)]; exact a4
theorem Fr.setT (g i : Nat) (w : World) (x : PR) : Fr g w (((w.setCell ⟨g, i * 4 + 1, none⟩ (.int .i64 x.t.kind)).setCell ⟨g, i * 4 + 1 + 1, none⟩ (.string x.t.name)).setCell ⟨g, i * 4 + 1 + 2, none⟩ (.slice x.a x.t.kids.length x.c)) :=
  ⟨below_set3' (Below.refl 0 w) (o := i * 4 + 1) (Nat.zero_le _) _ _ _, fun _ _ hg => set3_others' (o := i * 4 + 1) _ _ _ hg⟩
theorem Copy.set {l m : List PR} (h : Copy l m) (i : Nat) (a : Option Addr) (c : Nat) : Copy (l.set i { l.getD i noP with a := a, c := c }) m := by
  refine ⟨by simpa using h.1, fun j hj => ?_⟩
  have hj' : j < l.length := by simpa using hj
  by_cases e : j = i
  · subst e
    have e2 : (l.set j { l.getD j noP with a := a, c := c }).getD j noP = { l.getD j noP with a := a, c := c } := by simp [List.getD, hj']
    rw [e2]
    exact h.2 j hj'
  · have e2 : (l.set i { l.getD i noP with a := a, c := c }).getD j noP = l.getD j noP := by simp [List.getD, Ne.symm e]
    rw [e2]
    exact h.2 j hj'

set_option maxHeartbeats 4000000 in
theorem of_some (g cap : Nat) (d : List PR) (w : World) (h : RowP g d w) (ht : Typ d w) (hf : FitsAll d) (hz : SizedAll d) (hl : d.length < 20) (h0 : d ≠ []) :
    Calls Try.prog 11 #[.slice (some ⟨g, 0, none⟩) d.length cap] w fun e w' => (∃ v l, e = .returned (.agg #[v]) ∧ SubAt v l w' ∧ Made d l) ∧ Below w.heap.size w w' := by
  have HC := Lib.hid (fun o => clone_some g cap d (w.alloc o) (h.below ((Below.refl _ w).alloc (Nat.le_refl _) o)) h0 (by omega))
  have HG := Lib.hid (fun g' cap' W (hr : RowP g' d W) (hk : KeepT w W) (hc : d.length ≤ cap') => gather_some g' cap' d W hr (ht.keep hk) hf hc hl h0)
  have HT := Lib.hid ht; have HZ := Lib.hid hz
  have HB := Lib.hid (fun o => (Below.refl _ w).alloc (Nat.le_refl _) o)
  clear h ht hf hz h0
  go_enter Try.func11, Try.ntmps11
  go_wp2_with (go_at_call 30; refine (HC.out _).mono ?_)
  rintro e w1 ⟨⟨g', cap', ⟨rfl, hc'⟩, hg', hr'⟩, hb1⟩
  have HR1 := Lib.hid hr'
  have HB1 := Lib.hid ((HB.out (.cells #[.slice none 0 0] 39)).trans (hb1.mono (by simp)))
  have b1 := (hb1.block w.heap.size (by simp)).trans (alloc_new w _)
  have HX1 := Lib.hid b1
  have hgw : w.heap.size + 1 ≤ g' := by simpa using hg'
  clear hr' hb1 b1 hg' HC HB
  go_wp2_with (go_at_call 29; refine (HG.out g' cap' _ HR1.out (KeepT.of_below HB1.out) hc').mono ?_)
  rintro e w2 ⟨⟨l, ⟨rfl, hlc⟩, hr2, hga⟩, hf2⟩
  have HB2 := Lib.hid (HB1.out.trans (hf2.below (N := w.heap.size) (by omega) HB1.out.size))
  have HX2 := Lib.hid ((hf2.2 w.heap.size (Array.getElem?_eq_some_iff.1 HX1.out).1 (by omega)).trans HX1.out)
  have HR2 := Lib.hid hr2
  have HGa := Lib.hid hga
  have HT2 : Hid (Typ l w2) := Lib.hid fun x hx => (HT.out x (hga.sub x hx)).keep ((KeepT.of_below HB1.out).trans (hf2.keepT HR1.out))
  have HZ2 : Hid (SizedAll l) := Lib.hid fun x hx => HZ.out x (hga.sub x hx)
  have hlen := hga.len
  clear hr2 hf2 HX1 HR1 HB1 HG HT HZ hga
  have hlz : l.length < 20 := by omega
  go_wp2
  have lw2 : w.heap.size < w2.heap.size := (Array.getElem?_eq_some_iff.1 HX2.out).1
  have lg2 : g' < w2.heap.size := HR2.out.lt
  go_loopw [12] (fun vi wr => ∃ (i : Nat) (ls : List PR), i ≤ l.length ∧ vi = .int .i64 i ∧ Hid (Copy ls l) ∧ Hid (RowP g' ls wr) ∧ Hid (Typ ls wr) ∧ Hid (Below w.heap.size w wr) ∧
    wr.heap[w2.heap.size]? = some (.cells #[.slice (some ⟨g', 0, none⟩) l.length cap'] 39 (0, 0)) ∧ wr.heap[w.heap.size]? = some (.cells #[.slice none 0 0] 39 (0, 0))) (fun vi _ => l.length - (intOf vi).toNat)
  case atStart =>
    refine ⟨0, l, Nat.zero_le _, rfl, Lib.hid (Copy.refl l), Lib.hid (HR2.out.below ((Below.refl _ w2).alloc (Nat.le_refl _) _)), Lib.hid (HT2.out.keep (keepT_alloc w2 _)), Lib.hid (HB2.out.alloc HB2.out.size _), alloc_new w2 _, ?_⟩
    rw [Below.heap_alloc _ _ _ lw2]; exact HX2.out
  case round =>
    obtain ⟨i, ls, hi, rfl, hCp, hRow, hTy, hB, hb3, hb0⟩ := hrel
    have hll := hCp.out.1
    by_cases hlt : i < l.length
    · obtain ⟨x0, x1, x2, x3⟩ := hRow.out.cells (i := i) (by omega)
      have hmem := getD_mem (d := ls) (i := i) (by omega)
      have htx := hTy.out _ hmem
      have hzx : tsize (ls.getD i noP).t ≤ 1000000000 := by obtain ⟨y, hy, _, e2⟩ := hCp.out.mem _ hmem; rw [e2]; exact HZ2.out y hy
      have HO := Lib.hid (fun (W : World) (k : KeepT wr W) => own_any (w := W) hzx (htx.keep k))
      have HCs := Lib.hid (fun a c => hCp.out.set i a c)
      have HRs := Lib.hid (fun (W : World) (hr : RowP g' ls W) (a : Option Addr) (c : Nat) => hr.setT i { ls.getD i noP with a := a, c := c } (fun _ => rfl))
      have HTs : Hid (∀ (W : World) (a : Option Addr) (c : Nat), Typ ls W → TysAt W (.slice a (ls.getD i noP).t.kids.length c) (ls.getD i noP).t.kids → Typ (ls.set i { ls.getD i noP with a := a, c := c }) W) := Lib.hid fun W a c h1 h2 y hy => by
        rcases List.mem_or_eq_of_mem_set hy with h | rfl
        · exact h1 y h
        · exact h2
      have y3 : wr.cell? ⟨w2.heap.size, 0, none⟩ = some (.slice (some ⟨g', 0, none⟩) l.length cap') := by rw [Lib.cell_of_heap hb3]; rfl
      have l3 := (Array.getElem?_eq_some_iff.1 hb3).1
      have lgr := hRow.out.lt
      have Hb3 := Lib.hid hb3; have Hb0 := Lib.hid hb0
      clear hmem htx hzx hb3 hb0
      generalize ls.getD i noP = x at *
      simp only [tyV] at HO
      have hiz : (i : Int) < (l.length : Int) := by omega
      go_wp2
      have hbx := alloc_new wr (.cells #[.string x.n, .int .i64 x.t.kind, .string x.t.name, .slice x.a x.t.kids.length x.c] 58)
      have hbl := (Below.refl _ wr).alloc (Nat.le_refl _) (.cells #[.string x.n, .int .i64 x.t.kind, .string x.t.name, .slice x.a x.t.kids.length x.c] 58)
      obtain ⟨V, hV⟩ : ∃ V, wr.alloc (.cells #[.string x.n, .int .i64 x.t.kind, .string x.t.name, .slice x.a x.t.kids.length x.c] 58) = V := ⟨_, rfl⟩
      rw [hV] at hbx hbl ⊢
      clear hV x0 x1 x2 x3
      have hb3V := (hbl.block _ l3).trans Hb3.out
      have y3V : V.cell? ⟨w2.heap.size, 0, none⟩ = some (.slice (some ⟨g', 0, none⟩) l.length cap') := by rw [Lib.cell_of_heap hb3V]; rfl
      obtain ⟨q0, q1, q2, q3⟩ := four_cells hbx
      have l3V := (Array.getElem?_eq_some_iff.1 hb3V).1
      have HbV := Lib.hid hbl
      have Hb3V := Lib.hid hb3V
      clear hbx hbl hb3V y3
      go_region_with (first
        | (go_at_call 31; refine (HO.out V.drew (KeepT.of_below HbV.out.drew)).mono ?_; rintro e w4 ⟨⟨a4, c4, rfl, hin⟩, hb4⟩; have HI4 := Lib.hid hin.tys; have HB4 := Lib.hid (HbV.out.trans ((Below.refl _ V).drew.trans hb4 |>.mono HbV.out.size)); have hR4 := Lib.hid (hRow.out.below HB4.out); obtain ⟨o0, o1, o2, o3⟩ := hR4.out.cells (i := i) (by omega); have f1 := hR4.out.free (i * 4 + 1); have f2 := hR4.out.free (i * 4 + 1 + 1); have f3 := hR4.out.free (i * 4 + 1 + 2); have y4 : w4.cell? ⟨w2.heap.size, 0, none⟩ = some (.slice (some ⟨g', 0, none⟩) l.length cap') := (by rw [Lib.cell_of_heap ((HB4.out.block _ l3).trans Hb3.out)]; rfl); have lg4 := hR4.out.lt; have l34 := Nat.lt_of_lt_of_le l3 HB4.out.size; clear hin hb4; simp only [tyV]))
      all_goals
        go_wp2
        have HF := Lib.hid (Fr.setT g' i w4 { x with a := a4, c := c4 })
        have HFw := Lib.hid ((Fr.of_below (g := g') HB4.out).trans HF.out)
        have HK : Hid (∀ k, k ≠ g' → k < wr.heap.size → ((((w4.setCell ⟨g', i * 4 + 1, none⟩ (.int .i64 x.t.kind)).setCell ⟨g', i * 4 + 1 + 1, none⟩ (.string x.t.name)).setCell ⟨g', i * 4 + 1 + 2, none⟩ (.slice a4 x.t.kids.length c4))).heap[k]? = wr.heap[k]?) := Lib.hid fun k hk hkl => HFw.out.2 k hkl hk
        go_roundw
        case rel => exact ⟨i + 1, ls.set i { x with a := a4, c := c4 }, by omega, by go_num, Lib.hid (HCs.out a4 c4), Lib.hid (HRs.out w4 hR4.out a4 c4), Lib.hid (HTs.out _ a4 c4 (hTy.out.keep (HFw.out.keepT hRow.out)) (HI4.out.keep (HF.out.keepT hR4.out))), Lib.hid (hB.out.trans (HFw.out.below (by omega) hB.out.size)), (HK.out _ (by omega) l3).trans Hb3.out, (HK.out _ (by omega) (Nat.lt_of_lt_of_le (by omega) (Nat.le_of_lt l3))).trans Hb0.out⟩
        case measure => simp [intOf]; omega
    · obtain rfl : i = l.length := by omega
      have y3 : wr.cell? ⟨w2.heap.size, 0, none⟩ = some (.slice (some ⟨g', 0, none⟩) l.length cap') := by rw [Lib.cell_of_heap hb3]; rfl
      have y0 : wr.cell? ⟨w.heap.size, 0, none⟩ = some (.slice none 0 0) := by rw [Lib.cell_of_heap hb0]; rfl
      have y1 := Lib.frozen_of_heap hb0 0
      have Hb0 := Lib.hid hb0
      clear hb3 hb0
      go_wp2
      have hs := blk_set (o := 0) Hb0.out (.slice (some ⟨g', 0, none⟩) l.length cap')
      have hc0 : (wr.setCell ⟨w.heap.size, 0, none⟩ (.slice (some ⟨g', 0, none⟩) l.length cap')).cell? ⟨w.heap.size, 0, none⟩ = some (.slice (some ⟨g', 0, none⟩) l.length cap') := by rw [Lib.cell_of_heap hs]; rfl
      refine bodyPost_ret (v := .agg #[.slice (some ⟨g', 0, none⟩) l.length cap']) (by simp [results, Try.results11, go_sem, hc0]) rfl ⟨⟨_, ls, rfl, ⟨⟨.inr ⟨g', cap', by rw [hll], by omega, hRow.out.same (Below.heap_setCell _ ⟨w.heap.size, 0, none⟩ _ _ (by show g' ≠ w.heap.size; omega))⟩, hCp.out.neat HGa.out.neat⟩, hTy.out.keep ?_⟩, HGa.out.made hCp.out⟩, hB.out.setCell (p := ⟨w.heap.size, 0, none⟩) (Nat.le_refl _) _⟩
      intro k cs fz hk
      refine (Below.heap_setCell _ ⟨w.heap.size, 0, none⟩ _ k ?_).trans hk
      rintro rfl
      have := Hb0.out
      rw [hk] at this
      simp at this

theorem of_nil (w : World) :
    Calls Try.prog 11 #[.slice none 0 0] w fun e w' => (∃ v l, e = .returned (.agg #[v]) ∧ SubAt v l w' ∧ Made [] l) ∧ Below w.heap.size w w' := by
  have HB := Lib.hid (fun o => (Below.refl _ w).alloc (Nat.le_refl _) o)
  go_enter Try.func11, Try.ntmps11
  go_wp2_with (go_at_call 30; refine (clone_nil _).mono ?_; rintro e w1 ⟨rfl, rfl⟩)
  go_wp2_with (go_at_call 29; refine (gather_none none 0 _).mono ?_)
  rintro e w2 ⟨rfl, hb⟩
  have b2 := (hb.block w.heap.size (by simp)).trans (alloc_new w _)
  have HB2 := Lib.hid ((HB.out _).trans (hb.mono (by simp)))
  have y0 : w2.cell? ⟨w.heap.size, 0, none⟩ = some (.slice none 0 0) := by rw [Lib.cell_of_heap b2]; rfl
  have y1 := Lib.frozen_of_heap b2 0
  have l2 := (Array.getElem?_eq_some_iff.1 b2).1
  have Hb := Lib.hid b2
  clear hb b2 HB
  go_wp2
  refine wp_loop_rounds 1 ?_
  rw [rounds_succ]
  go_wp2
  have hs : ∀ o : Obj, ((w2.setCell ⟨w.heap.size, 0, none⟩ (.slice none 0 0)).alloc o).heap[w.heap.size]? = some (.cells #[.slice none 0 0] 39 (0, 0)) := fun o => by
    rw [Below.heap_alloc _ _ _ (by simpa using l2)]; exact blk_set (o := 0) Hb.out (.slice none 0 0)
  have hc0 : ((w2.setCell ⟨w.heap.size, 0, none⟩ (.slice none 0 0)).alloc (.cells #[.slice none 0 0] 39)).cell? ⟨w.heap.size, 0, none⟩ = some (.slice none 0 0) := by rw [Lib.cell_of_heap (hs _)]; rfl
  exact bodyPost_ret (v := .agg #[.slice none 0 0]) (by simp [results, Try.results11, go_sem, hc0]) rfl ⟨⟨_, [], rfl, sub_nil _ _ _ (fun _ => rfl), gath_nil.made (Copy.refl [])⟩, (HB2.out.setCell (p := ⟨w.heap.size, 0, none⟩) (Nat.le_refl _) _).alloc (by simp; omega) _⟩

/-- A list of pairs as it is handed in. -/
def GivenP (v : Value) (d : List PR) (w : World) : Prop := (d = [] ∧ v = .slice none 0 0) ∨ (d ≠ [] ∧ ∃ g cap, v = .slice (some ⟨g, 0, none⟩) d.length cap ∧ RowP g d w)
theorem of_any {v : Value} {d : List PR} {w : World} (h : GivenP v d w) (ht : Typ d w) (hf : FitsAll d) (hz : SizedAll d) (hl : d.length < 20) :
    Calls Try.prog 11 #[v] w fun e w' => (∃ v l, e = .returned (.agg #[v]) ∧ SubAt v l w' ∧ Made d l) ∧ Below w.heap.size w w' := by
  rcases h with ⟨rfl, rfl⟩ | ⟨h0, g, cap, rfl, hr⟩
  · exact of_nil w
  · exact of_some g cap d w hr ht hf hz hl h0
theorem app_congr {d d' : List PR} (h : ∀ n, ty n d = ty n d') : ∀ t, app d t = app d' t := by
  intro t
  match t with
  | .var n => rw [app, app]; exact h n
  | .con n l =>
    rw [app, app, apps_map, apps_map]
    congr 1
    exact List.map_congr_left fun k hk => app_congr h k
  | .fn a b => rw [app, app, app_congr h a, app_congr h b]
  | .all n a => rw [app, app, app_congr h a]
termination_by t => SizeOf.sizeOf t
decreasing_by
  · have := List.sizeOf_lt_of_mem hk; simp; omega
  · simp; omega
  · simp; omega
  · simp; omega
end Go.Proofs.Ytmbaolcdjgilpaa
