/- Merged: SbOf, SbRen, Make, MakeType. -/
import Derived.Test.YthpphjkoiipkkaaDoorUm8
import Derived.Shelf.SlicesE.Clone
import Derived.Test.YthpphjkoiipkkaaDoorUm4
import Derived.Deep.RegionHeld3
import Derived.Deep.DrawnRows
import Derived.BigRegion
/- subst.Of: each variable its type, in memory of its own. -/
namespace Go.Proofs.YthpphjkoiipkkaaDoor
open Go.RowKit Go.Sort Go.Lib
attribute [local go_sem] Oper.semAt_some

def cloneRen : Go.Shelf.Ren := ⟨fun | 41 => 64 | n => n, fun | 4 => 4 | 22 => 31 | 23 => 93 | n => n, fun n => n⟩
theorem cloneLay : SlLaysE0.n41 Tryd.prog cloneRen :=
  { mixed := by kernel_rfl
    f41 := ⟨Tryd.f64.name, by decide, by kernel_rfl⟩
    t4 := by kernel_rfl
    a4 := fun _ => by kernel_rfl
    z4 := fun _ => by kernel_rfl
    v4 := fun _ => by kernel_rfl
    t22 := by kernel_rfl
    a22 := fun _ => by kernel_rfl
    z22 := fun _ => by kernel_rfl
    v22 := fun _ => by kernel_rfl }
theorem Tryd.infoPair : (Tryd.prog.info? 93).map (fun i => (i.zero, i.size, i.bytes)) = some (some (.agg zeroP), 4, 64) := by kernel_rfl
theorem flat_one (d : List PR) : ∀ u ∈ (flatK encP 4 d.toArray).toList, u.oneCell' = true := by
  intro u hu
  simp only [flatK, Array.toList_map, List.mem_map] at hu
  obtain ⟨i, _, rfl⟩ := hu
  have h4 : i % 4 < (encP (d.toArray[i / 4]!)).length := Nat.mod_lt _ (by decide)
  rw [getElem!_pos (encP (d.toArray[i / 4]!)) (i % 4) h4]
  exact encP_one _ _ (List.getElem_mem _)
theorem clone_some (g cap : Nat) (d : List PR) (w : World) (h : RowP g d w) (h0 : d ≠ []) (hl : d.length ≤ 1000000) :
    Calls Tryd.prog 64 #[.slice (some ⟨g, 0, none⟩) d.length cap] w fun e w' =>
      (∃ g' cap', (e = .returned (.slice (some ⟨g', 0, none⟩) d.length cap') ∧ d.length ≤ cap') ∧ w.heap.size ≤ g' ∧ RowP g' d w') ∧ Below w.heap.size w w' := by
  obtain ⟨i, hi, hzz⟩ := Option.map_eq_some_iff.1 Tryd.infoPair
  simp only [Prod.mk.injEq] at hzz
  obtain ⟨hz, hs, hb⟩ := hzz
  have hfl : (flatK encP 4 d.toArray).toList.length = d.length * 4 := by simp
  have hm : (1000000 : Nat) ≤ maxLen := by decide
  have hc : ∀ j u, (flatK encP 4 d.toArray).toList[j]? = some u → w.cell? ⟨g, 0 + j, none⟩ = some u := by
    intro j u hu
    obtain ⟨hj, e⟩ := List.getElem?_eq_some_iff.1 hu
    have hj' : j < (flatK encP 4 d.toArray).size := by simpa using hj
    rw [(h.holds j hj').1, getElem!_pos _ j hj']
    simpa using e
  have main : Calls Tryd.prog 64 _ _ _ := AnyE.slices_Clone cloneLay i (.agg zeroP) 4 64 hi hz hs hb (by rfl) (by decide) (fun _ => by kernel_rfl) g 0 d.length cap (flatK encP 4 d.toArray).toList w hfl (by omega) (by omega) hc (flat_one d)
  refine main.mono ?_
  rintro e w' ⟨v', rfl, ⟨_, ⟨_, hn⟩ | ⟨g', cap', cur, rfl, hg', hcur, hcap, _, hsz, htk⟩⟩, _, hb⟩
  · exact absurd (List.length_eq_zero_iff.1 hn) h0
  · refine ⟨⟨g', cap', ⟨rfl, hcap⟩, hg', ⟨cur, hcur, ?_, fun k hk => ?_⟩⟩, hb⟩
    · rw [hsz]; exact Nat.mul_le_mul_right 4 hcap
    · have hbg : d.toArray[k]! = d.getD k noP := (getD_list d k hk).symm
      have key : ∀ c, c < 4 → cur[k * 4 + c]? = some ((encP (d.getD k noP))[c]!) := by
        intro c hc4
        have hlt : k * 4 + c < d.length * 4 := by omega
        have e1 : (cur.toList.take (d.length * 4))[k * 4 + c]? = cur[k * 4 + c]? := by rw [List.getElem?_take_of_lt hlt]; simp
        rw [← e1, htk]
        have hF : k * 4 + c < (flatK encP 4 d.toArray).size := by simpa using hlt
        have e2 := get_flatK encP 4 d.toArray (k * 4 + c) (by simpa using hlt)
        rw [show (k * 4 + c) / 4 = k by omega, show (k * 4 + c) % 4 = c by omega, hbg, getElem!_pos (flatK encP 4 d.toArray) (k * 4 + c) hF] at e2
        rw [List.getElem?_eq_getElem (by simpa using hlt), ← e2]
        simp
      exact ⟨by simpa [encP] using key 0 (by decide), key 1 (by decide), key 2 (by decide), key 3 (by decide)⟩
theorem clone_nil (w : World) : Calls Tryd.prog 64 #[.slice none 0 0] w fun e w' => e = .returned (.slice none 0 0) ∧ w' = w :=
  AnyE.slices_Clone_nil cloneLay 0 0 w

/-- One list in another's place: the same names and types, elsewhere. -/
def Copy (l m : List PR) : Prop := l.length = m.length ∧ ∀ i, i < l.length → (l.getD i noP).n = (m.getD i noP).n ∧ (l.getD i noP).t = (m.getD i noP).t
theorem Copy.refl (l : List PR) : Copy l l := ⟨rfl, fun _ _ => ⟨rfl, rfl⟩⟩
theorem Copy.cons {x y : PR} {l m : List PR} (h : Copy (x :: l) (y :: m)) : (x.n = y.n ∧ x.t = y.t) ∧ Copy l m := by
  obtain ⟨h1, h2⟩ := h
  refine ⟨by simpa [List.getD] using h2 0 (by simp), by simpa using h1, fun i hi => by simpa [List.getD] using h2 (i + 1) (by simpa using hi)⟩
theorem Copy.lk {n : ByteArray} : ∀ {l m : List PR}, Copy l m → (lk n l).map PR.t = (lk n m).map PR.t
  | [], [], _ => rfl
  | [], _ :: _, h => absurd h.1 (by simp)
  | _ :: _, [], h => absurd h.1 (by simp)
  | x :: l, y :: m, h => by
    obtain ⟨⟨h1, h2⟩, h3⟩ := h.cons
    rw [lk_cons, lk_cons, h1]
    by_cases e : y.n = n
    · rw [if_pos e, if_pos e]; simp [h2]
    · rw [if_neg e, if_neg e]; exact h3.lk
theorem Copy.mem : ∀ {l m : List PR}, Copy l m → ∀ x ∈ l, ∃ y ∈ m, x.n = y.n ∧ x.t = y.t
  | [], _, _, x, hx => by cases hx
  | _ :: _, [], h, _, _ => absurd h.1 (by simp)
  | z :: l, y :: m, h, x, hx => by
    obtain ⟨h1, h3⟩ := h.cons
    rcases List.mem_cons.1 hx with rfl | hx
    · exact ⟨y, List.mem_cons_self .., h1⟩
    · obtain ⟨u, hu, e⟩ := h3.mem x hx
      exact ⟨u, List.mem_cons_of_mem _ hu, e⟩
theorem Copy.sorted : ∀ {l m : List PR}, Copy l m → Sorted m → Sorted l
  | [], _, _, _ => List.Pairwise.nil
  | _ :: _, [], h, _ => absurd h.1 (by simp)
  | x :: l, y :: m, h, hs => by
    obtain ⟨⟨h1, _⟩, h3⟩ := h.cons
    have hs' := List.pairwise_cons.1 hs
    refine List.pairwise_cons.2 ⟨fun z hz => ?_, h3.sorted hs'.2⟩
    obtain ⟨u, hu, e, _⟩ := h3.mem z hz
    have := hs'.1 u hu
    unfold cmpP at this ⊢
    rw [h1, e]; exact this
theorem Copy.neat {l m : List PR} (h : Copy l m) (hn : Neat m) : Neat l := by
  refine ⟨h.sorted hn.1, fun x hx => ?_⟩
  obtain ⟨y, hy, e1, e2⟩ := h.mem x hx
  have := hn.2 y hy
  cases ho : ownP x with
  | false => rfl
  | true =>
    have h1 := ownP_iff.1 ho
    rw [e1, e2] at h1
    rw [ownP_iff.2 h1] at this
    cases this
/-- What is made of a list of pairs. -/
structure Made (d l : List PR) : Prop where
  sub : ∀ x ∈ l, ∃ y ∈ d, x.n = y.n ∧ x.t = y.t
  len : l.length ≤ d.length
  same : ∀ n, ty n l = ty n d
theorem Gath.made {d l m : List PR} (h : Gath d l) (k : Copy m l) : Made d m :=
  ⟨fun x hx => by obtain ⟨y, hy, e⟩ := k.mem x hx; exact ⟨y, h.sub y hy, e⟩, by rw [k.1]; exact h.len, fun n => by rw [← h.same n]; unfold ty; rw [k.lk]⟩

theorem RowP.setT {g : Nat} {l : List PR} {w : World} (h : RowP g l w) (i : Nat) (x : PR) (hn : i < l.length → (l.getD i noP).n = x.n) :
    RowP g (l.set i x) (((w.setCell ⟨g, i * 4 + 1, none⟩ (.int .i64 x.t.kind)).setCell ⟨g, i * 4 + 1 + 1, none⟩ (.string x.t.name)).setCell ⟨g, i * 4 + 1 + 2, none⟩ (.slice x.a x.t.kids.length x.c)) := by
  obtain ⟨cs, h1, h2, h3⟩ := h
  refine ⟨((cs.setIfInBounds (i * 4 + 1) (.int .i64 x.t.kind)).setIfInBounds (i * 4 + 1 + 1) (.string x.t.name)).setIfInBounds (i * 4 + 1 + 2) (.slice x.a x.t.kids.length x.c), blk_set (blk_set (blk_set h1 _) _) _, by simpa using h2, fun j hj => ?_⟩
  have hj' : j < l.length := by simpa using hj
  by_cases e : j = i
  · subst e
    have e2 : (l.set j x).getD j noP = x := by simp [List.getD, hj']
    rw [e2]
    obtain ⟨a1, _⟩ := h3 j hj'
    rw [hn hj'] at a1
    refine ⟨?_, ?_, ?_, ?_⟩
    · rw [Array.getElem?_setIfInBounds_ne (by omega), Array.getElem?_setIfInBounds_ne (by omega), Array.getElem?_setIfInBounds_ne (by omega)]; exact a1
    · rw [Array.getElem?_setIfInBounds_ne (by omega), Array.getElem?_setIfInBounds_ne (by omega)]; simp [Array.getElem?_setIfInBounds]; omega
    · rw [Array.getElem?_setIfInBounds_ne (by omega)]; simp [Array.getElem?_setIfInBounds]; omega
    · simp [Array.getElem?_setIfInBounds]; omega
  · have e2 : (l.set i x).getD j noP = l.getD j noP := by simp [List.getD, Ne.symm e]
    rw [e2]
    obtain ⟨a1, a2, a3, a4⟩ := h3 j hj'
    refine ⟨?_, ?_, ?_, ?_⟩
    · rw [Array.getElem?_setIfInBounds_ne (by omega), Array.getElem?_setIfInBounds_ne (by omega), Array.getElem?_setIfInBounds_ne (by omega)]; exact a1
    · rw [Array.getElem?_setIfInBounds_ne (by omega), Array.getElem?_setIfInBounds_ne (by omega), Array.getElem?_setIfInBounds_ne (by omega)]; exact a2
    · rw [Array.getElem?_setIfInBounds_ne (by omega), Array.getElem?_setIfInBounds_ne (by omega), Array.getElem?_setIfInBounds_ne (by omega)]; exact a3
    · rw [Array.getElem?_setIfInBounds_ne (by omega), Array.getElem?_setIfInBounds_ne (by omega), Array.getElem?_setIfInBounds_ne (by omega)]; exact a4
theorem Fr.setT (g i : Nat) (w : World) (x : PR) : Fr g w (((w.setCell ⟨g, i * 4 + 1, none⟩ (.int .i64 x.t.kind)).setCell ⟨g, i * 4 + 1 + 1, none⟩ (.string x.t.name)).setCell ⟨g, i * 4 + 1 + 2, none⟩ (.slice x.a x.t.kids.length x.c)) :=
  ⟨below_set3' (Below.refl 0 w) (o := i * 4 + 1) (Nat.zero_le _) _ _ _, fun _ _ hg => set3_others' (o := i * 4 + 1) _ _ _ hg⟩
theorem Copy.set {l m : List PR} (h : Copy l m) (i : Nat) (a : Option Addr) (c : Nat) : Copy (l.set i { l.getD i noP with a := a, c := c }) m := by
  refine ⟨by simpa using h.1, fun j hj => ?_⟩
  have hj' : j < l.length := by simpa using hj
  by_cases e : j = i
  · subst e
    have e2 : (l.set j { l.getD j noP with a := a, c := c }).getD j noP = { l.getD j noP with a := a, c := c } := by simp [List.getD, hj']
    rw [e2]
    exact h.2 j hj'
  · have e2 : (l.set i { l.getD i noP with a := a, c := c }).getD j noP = l.getD j noP := by simp [List.getD, Ne.symm e]
    rw [e2]
    exact h.2 j hj'

set_option maxRecDepth 100000 in
set_option maxHeartbeats 4000000 in
theorem of_some (g cap : Nat) (d : List PR) (w : World) (h : RowP g d w) (ht : Typ d w) (hf : FitsAll d) (hz : SizedAll d) (hl : d.length < 20) (h0 : d ≠ []) :
    Calls Tryd.prog 54 #[.slice (some ⟨g, 0, none⟩) d.length cap] w fun e w' => (∃ v l, e = .returned (.agg #[v]) ∧ SubAt v l w' ∧ Made d l) ∧ Below w.heap.size w w' := by
  have HC := Lib.hid (fun o => clone_some g cap d (w.alloc o) (h.below ((Below.refl _ w).alloc (Nat.le_refl _) o)) h0 (by omega))
  have HG := Lib.hid (fun g' cap' W (hr : RowP g' d W) (hk : KeepT w W) (hc : d.length ≤ cap') => gather_some g' cap' d W hr (ht.keep hk) hf hc hl h0)
  have HT := Lib.hid ht; have HZ := Lib.hid hz
  have HB := Lib.hid (fun o => (Below.refl _ w).alloc (Nat.le_refl _) o)
  clear h ht hf hz h0
  go_enter Tryd.func54, Tryd.ntmps54
  go_wp2_with (go_at_call 64; refine (HC.out _).mono ?_)
  rintro e w1 ⟨⟨g', cap', ⟨rfl, hc'⟩, hg', hr'⟩, hb1⟩
  have HR1 := Lib.hid hr'
  have HB1 := Lib.hid ((HB.out (.cells #[.slice none 0 0] 33)).trans (hb1.mono (by simp)))
  have b1 := (hb1.block w.heap.size (by simp)).trans (alloc_new w _)
  have HX1 := Lib.hid b1
  have hgw : w.heap.size + 1 ≤ g' := by simpa using hg'
  clear hr' hb1 b1 hg' HC HB
  go_wp2_with (go_at_call 63; refine (HG.out g' cap' _ HR1.out (KeepT.of_below HB1.out) hc').mono ?_)
  rintro e w2 ⟨⟨l, ⟨rfl, hlc⟩, hr2, hga⟩, hf2⟩
  have HB2 := Lib.hid (HB1.out.trans (hf2.below (N := w.heap.size) (by omega) HB1.out.size))
  have HX2 := Lib.hid ((hf2.2 w.heap.size (Array.getElem?_eq_some_iff.1 HX1.out).1 (by omega)).trans HX1.out)
  have HR2 := Lib.hid hr2
  have HGa := Lib.hid hga
  have HT2 : Hid (Typ l w2) := Lib.hid fun x hx => (HT.out x (hga.sub x hx)).keep ((KeepT.of_below HB1.out).trans (hf2.keepT HR1.out))
  have HZ2 : Hid (SizedAll l) := Lib.hid fun x hx => HZ.out x (hga.sub x hx)
  have hlen := hga.len
  clear hr2 hf2 HX1 HR1 HB1 HG HT HZ hga
  have hlz : l.length < 20 := by omega
  go_wp2
  have lw2 : w.heap.size < w2.heap.size := (Array.getElem?_eq_some_iff.1 HX2.out).1
  have lg2 : g' < w2.heap.size := HR2.out.lt
  go_loopw [12] (fun vi wr => ∃ (i : Nat) (ls : List PR), i ≤ l.length ∧ vi = .int .i64 i ∧ Hid (Copy ls l) ∧ Hid (RowP g' ls wr) ∧ Hid (Typ ls wr) ∧ Hid (Below w.heap.size w wr) ∧
    wr.heap[w2.heap.size]? = some (.cells #[.slice (some ⟨g', 0, none⟩) l.length cap'] 33 (0, 0)) ∧ wr.heap[w.heap.size]? = some (.cells #[.slice none 0 0] 33 (0, 0))) (fun vi _ => l.length - (intOf vi).toNat)
  case atStart =>
    refine ⟨0, l, Nat.zero_le _, rfl, Lib.hid (Copy.refl l), Lib.hid (HR2.out.below ((Below.refl _ w2).alloc (Nat.le_refl _) _)), Lib.hid (HT2.out.keep (keepT_alloc w2 _)), Lib.hid (HB2.out.alloc HB2.out.size _), alloc_new w2 _, ?_⟩
    rw [Below.heap_alloc _ _ _ lw2]; exact HX2.out
  case round =>
    obtain ⟨i, ls, hi, rfl, hCp, hRow, hTy, hB, hb3, hb0⟩ := hrel
    have hll := hCp.out.1
    by_cases hlt : i < l.length
    · obtain ⟨x0, x1, x2, x3⟩ := hRow.out.cells (i := i) (by omega)
      have hmem := getD_mem (d := ls) (i := i) (by omega)
      have htx := hTy.out _ hmem
      have hzx : tsize (ls.getD i noP).t ≤ 1000000000 := by obtain ⟨y, hy, _, e2⟩ := hCp.out.mem _ hmem; rw [e2]; exact HZ2.out y hy
      have HO := Lib.hid (fun (W : World) (k : KeepT wr W) => own_any (w := W) hzx (htx.keep k))
      have HCs := Lib.hid (fun a c => hCp.out.set i a c)
      have HRs := Lib.hid (fun (W : World) (hr : RowP g' ls W) (a : Option Addr) (c : Nat) => hr.setT i { ls.getD i noP with a := a, c := c } (fun _ => rfl))
      have HTs : Hid (∀ (W : World) (a : Option Addr) (c : Nat), Typ ls W → TysAt W (.slice a (ls.getD i noP).t.kids.length c) (ls.getD i noP).t.kids → Typ (ls.set i { ls.getD i noP with a := a, c := c }) W) := Lib.hid fun W a c h1 h2 y hy => by
        rcases List.mem_or_eq_of_mem_set hy with h | rfl
        · exact h1 y h
        · exact h2
      have y3 : wr.cell? ⟨w2.heap.size, 0, none⟩ = some (.slice (some ⟨g', 0, none⟩) l.length cap') := by rw [Lib.cell_of_heap hb3]; rfl
      have l3 := (Array.getElem?_eq_some_iff.1 hb3).1
      have lgr := hRow.out.lt
      have Hb3 := Lib.hid hb3; have Hb0 := Lib.hid hb0
      clear hmem htx hzx hb3 hb0
      generalize ls.getD i noP = x at *
      simp only [tyV] at HO
      have hiz : (i : Int) < (l.length : Int) := by omega
      go_wp2
      have hbx := alloc_new wr (.cells #[.string x.n, .int .i64 x.t.kind, .string x.t.name, .slice x.a x.t.kids.length x.c] 93)
      have hbl := (Below.refl _ wr).alloc (Nat.le_refl _) (.cells #[.string x.n, .int .i64 x.t.kind, .string x.t.name, .slice x.a x.t.kids.length x.c] 93)
      obtain ⟨V, hV⟩ : ∃ V, wr.alloc (.cells #[.string x.n, .int .i64 x.t.kind, .string x.t.name, .slice x.a x.t.kids.length x.c] 93) = V := ⟨_, rfl⟩
      rw [hV] at hbx hbl ⊢
      clear hV x0 x1 x2 x3
      have hb3V := (hbl.block _ l3).trans Hb3.out
      have y3V : V.cell? ⟨w2.heap.size, 0, none⟩ = some (.slice (some ⟨g', 0, none⟩) l.length cap') := by rw [Lib.cell_of_heap hb3V]; rfl
      obtain ⟨q0, q1, q2, q3⟩ := four_cells hbx
      have l3V := (Array.getElem?_eq_some_iff.1 hb3V).1
      have HbV := Lib.hid hbl
      have Hb3V := Lib.hid hb3V
      clear hbx hbl hb3V y3
      go_region_with (first
        | (go_at_call 32; refine (HO.out V.drew (KeepT.of_below HbV.out.drew)).mono ?_; rintro e w4 ⟨⟨a4, c4, rfl, hin⟩, hb4⟩; have HI4 := Lib.hid hin.tys; have HB4 := Lib.hid (HbV.out.trans ((Below.refl _ V).drew.trans hb4 |>.mono HbV.out.size)); have hR4 := Lib.hid (hRow.out.below HB4.out); obtain ⟨o0, o1, o2, o3⟩ := hR4.out.cells (i := i) (by omega); have f1 := hR4.out.free (i * 4 + 1); have f2 := hR4.out.free (i * 4 + 1 + 1); have f3 := hR4.out.free (i * 4 + 1 + 2); have y4 : w4.cell? ⟨w2.heap.size, 0, none⟩ = some (.slice (some ⟨g', 0, none⟩) l.length cap') := (by rw [Lib.cell_of_heap ((HB4.out.block _ l3).trans Hb3.out)]; rfl); have lg4 := hR4.out.lt; have l34 := Nat.lt_of_lt_of_le l3 HB4.out.size; clear hin hb4; simp only [tyV]))
      all_goals
        go_wp2
        have HF := Lib.hid (Fr.setT g' i w4 { x with a := a4, c := c4 })
        have HFw := Lib.hid ((Fr.of_below (g := g') HB4.out).trans HF.out)
        have HK : Hid (∀ k, k ≠ g' → k < wr.heap.size → ((((w4.setCell ⟨g', i * 4 + 1, none⟩ (.int .i64 x.t.kind)).setCell ⟨g', i * 4 + 1 + 1, none⟩ (.string x.t.name)).setCell ⟨g', i * 4 + 1 + 2, none⟩ (.slice a4 x.t.kids.length c4))).heap[k]? = wr.heap[k]?) := Lib.hid fun k hk hkl => HFw.out.2 k hkl hk
        go_roundw
        case rel => exact ⟨i + 1, ls.set i { x with a := a4, c := c4 }, by omega, by go_num, Lib.hid (HCs.out a4 c4), Lib.hid (HRs.out w4 hR4.out a4 c4), Lib.hid (HTs.out _ a4 c4 (hTy.out.keep (HFw.out.keepT hRow.out)) (HI4.out.keep (HF.out.keepT hR4.out))), Lib.hid (hB.out.trans (HFw.out.below (by omega) hB.out.size)), (HK.out _ (by omega) l3).trans Hb3.out, (HK.out _ (by omega) (Nat.lt_of_lt_of_le (by omega) (Nat.le_of_lt l3))).trans Hb0.out⟩
        case measure => simp [intOf]; omega
    · obtain rfl : i = l.length := by omega
      have y3 : wr.cell? ⟨w2.heap.size, 0, none⟩ = some (.slice (some ⟨g', 0, none⟩) l.length cap') := by rw [Lib.cell_of_heap hb3]; rfl
      have y0 : wr.cell? ⟨w.heap.size, 0, none⟩ = some (.slice none 0 0) := by rw [Lib.cell_of_heap hb0]; rfl
      have y1 := Lib.frozen_of_heap hb0 0
      have Hb0 := Lib.hid hb0
      clear hb3 hb0
      go_wp2
      have hs := blk_set (o := 0) Hb0.out (.slice (some ⟨g', 0, none⟩) l.length cap')
      have hc0 : (wr.setCell ⟨w.heap.size, 0, none⟩ (.slice (some ⟨g', 0, none⟩) l.length cap')).cell? ⟨w.heap.size, 0, none⟩ = some (.slice (some ⟨g', 0, none⟩) l.length cap') := by rw [Lib.cell_of_heap hs]; rfl
      refine bodyPost_ret (v := .agg #[.slice (some ⟨g', 0, none⟩) l.length cap']) (by simp [results, Tryd.results54, go_sem, hc0]) rfl ⟨⟨_, ls, rfl, ⟨⟨.inr ⟨g', cap', by rw [hll], by omega, hRow.out.same (Below.heap_setCell _ ⟨w.heap.size, 0, none⟩ _ _ (by show g' ≠ w.heap.size; omega))⟩, hCp.out.neat HGa.out.neat⟩, hTy.out.keep ?_⟩, HGa.out.made hCp.out⟩, hB.out.setCell (p := ⟨w.heap.size, 0, none⟩) (Nat.le_refl _) _⟩
      intro k cs fz hk
      refine (Below.heap_setCell _ ⟨w.heap.size, 0, none⟩ _ k ?_).trans hk
      rintro rfl
      have := Hb0.out
      rw [hk] at this
      simp at this

theorem of_nil (w : World) :
    Calls Tryd.prog 54 #[.slice none 0 0] w fun e w' => (∃ v l, e = .returned (.agg #[v]) ∧ SubAt v l w' ∧ Made [] l) ∧ Below w.heap.size w w' := by
  have HB := Lib.hid (fun o => (Below.refl _ w).alloc (Nat.le_refl _) o)
  go_enter Tryd.func54, Tryd.ntmps54
  go_wp2_with (go_at_call 64; refine (clone_nil _).mono ?_; rintro e w1 ⟨rfl, rfl⟩)
  go_wp2_with (go_at_call 63; refine (gather_none none 0 _).mono ?_)
  rintro e w2 ⟨rfl, hb⟩
  have b2 := (hb.block w.heap.size (by simp)).trans (alloc_new w _)
  have HB2 := Lib.hid ((HB.out _).trans (hb.mono (by simp)))
  have y0 : w2.cell? ⟨w.heap.size, 0, none⟩ = some (.slice none 0 0) := by rw [Lib.cell_of_heap b2]; rfl
  have y1 := Lib.frozen_of_heap b2 0
  have l2 := (Array.getElem?_eq_some_iff.1 b2).1
  have Hb := Lib.hid b2
  clear hb b2 HB
  go_wp2
  refine wp_loop_rounds 1 ?_
  rw [rounds_succ]
  go_wp2
  have hs : ∀ o : Obj, ((w2.setCell ⟨w.heap.size, 0, none⟩ (.slice none 0 0)).alloc o).heap[w.heap.size]? = some (.cells #[.slice none 0 0] 33 (0, 0)) := fun o => by
    rw [Below.heap_alloc _ _ _ (by simpa using l2)]; exact blk_set (o := 0) Hb.out (.slice none 0 0)
  have hc0 : ((w2.setCell ⟨w.heap.size, 0, none⟩ (.slice none 0 0)).alloc (.cells #[.slice none 0 0] 33)).cell? ⟨w.heap.size, 0, none⟩ = some (.slice none 0 0) := by rw [Lib.cell_of_heap (hs _)]; rfl
  exact bodyPost_ret (v := .agg #[.slice none 0 0]) (by simp [results, Tryd.results54, go_sem, hc0]) rfl ⟨⟨_, [], rfl, sub_nil _ _ _ (fun _ => rfl), gath_nil.made (Copy.refl [])⟩, (HB2.out.setCell (p := ⟨w.heap.size, 0, none⟩) (Nat.le_refl _) _).alloc (by simp; omega) _⟩

/-- A list of pairs as it is handed in. -/
def GivenP (v : Value) (d : List PR) (w : World) : Prop := (d = [] ∧ v = .slice none 0 0) ∨ (d ≠ [] ∧ ∃ g cap, v = .slice (some ⟨g, 0, none⟩) d.length cap ∧ RowP g d w)
theorem of_any {v : Value} {d : List PR} {w : World} (h : GivenP v d w) (ht : Typ d w) (hf : FitsAll d) (hz : SizedAll d) (hl : d.length < 20) :
    Calls Tryd.prog 54 #[v] w fun e w' => (∃ v l, e = .returned (.agg #[v]) ∧ SubAt v l w' ∧ Made d l) ∧ Below w.heap.size w w' := by
  rcases h with ⟨rfl, rfl⟩ | ⟨h0, g, cap, rfl, hr⟩
  · exact of_nil w
  · exact of_some g cap d w hr ht hf hz hl h0
theorem app_congr {d d' : List PR} (h : ∀ n, ty n d = ty n d') : ∀ t, app d t = app d' t := by
  intro t
  match t with
  | .var n => rw [app, app]; exact h n
  | .con n l =>
    rw [app, app, apps_map, apps_map]
    congr 1
    exact List.map_congr_left fun k hk => app_congr h k
  | .fn a b => rw [app, app, app_congr h a, app_congr h b]
  | .all n a => rw [app, app, app_congr h a]
termination_by t => SizeOf.sizeOf t
decreasing_by
  · have := List.sizeOf_lt_of_mem hk; simp; omega
  · simp; omega
  · simp; omega
  · simp; omega
end Go.Proofs.YthpphjkoiipkkaaDoor
/- subst.Rename: names for names. -/
namespace Go.Proofs.YthpphjkoiipkkaaDoor
open Go.RowKit Go.Sort Go.Lib
attribute [local go_sem] Oper.semAt_some

/-- v is a slice of the strings F. -/
def StrsP (v : Value) (F : List ByteArray) (w : World) : Prop :=
  (F = [] ∧ ∃ a c, v = .slice a 0 c) ∨ ∃ g o cap, v = .slice (some ⟨g, o, none⟩) F.length cap ∧ g < w.heap.size ∧ ∀ i, i < F.length → w.cell? ⟨g, o + i, none⟩ = some (.string (F.getD i ⟨#[]⟩))
theorem StrsP.below {v : Value} {F : List ByteArray} {w w' : World} (h : StrsP v F w) (hb : Below w.heap.size w w') : StrsP v F w' := by
  rcases h with h | ⟨g, o, cap, e, hg, hc⟩
  · exact .inl h
  · exact .inr ⟨g, o, cap, e, Nat.lt_of_lt_of_le hg hb.size, fun i hi => (hb.cell (p := ⟨g, o + i, none⟩) hg).trans (hc i hi)⟩
theorem StrsP.shape {v : Value} {F : List ByteArray} {w : World} (h : StrsP v F w) : ∃ a c, v = .slice a F.length c := by
  rcases h with ⟨rfl, a, c, rfl⟩ | ⟨g, o, cap, rfl, _⟩
  · exact ⟨a, c, rfl⟩
  · exact ⟨_, _, rfl⟩
/-- At a place: where the string lies. -/
theorem StrsP.at {a : Option Addr} {n c : Nat} {F : List ByteArray} {w : World} (h : StrsP (.slice a n c) F w) (hn : 0 < F.length) : ∃ g o, a = some ⟨g, o, none⟩ ∧ g < w.heap.size ∧ ∀ i, i < F.length → w.cell? ⟨g, o + i, none⟩ = some (.string (F.getD i ⟨#[]⟩)) := by
  rcases h with ⟨rfl, _⟩ | ⟨g, o, cap, e, hg, hc⟩
  · exact absurd hn (Nat.lt_irrefl _)
  · cases e; exact ⟨g, o, rfl, hg, hc⟩
/-- The pairs that a renaming is. -/
def prs : List ByteArray → List ByteArray → List PR
  | f :: F, g :: G => ⟨f, .var g, none, 0⟩ :: prs F G
  | _, _ => []
theorem prs_len : ∀ F G, (prs F G).length = min F.length G.length
  | [], G => by simp [prs]
  | f :: F, [] => by simp [prs]
  | f :: F, g :: G => by rw [prs, List.length_cons, prs_len F G]; simp
theorem prs_get : ∀ (F G : List ByteArray) (i : Nat), i < min F.length G.length → ((prs F G).getD i noP).n = F.getD i ⟨#[]⟩ ∧ ((prs F G).getD i noP).t = .var (G.getD i ⟨#[]⟩)
  | [], G, i, h => by simp at h
  | f :: F, [], i, h => by simp at h
  | f :: F, g :: G, 0, h => ⟨rfl, rfl⟩
  | f :: F, g :: G, i + 1, h => by
    have := prs_get F G i (by simp at h ⊢; omega)
    simpa [prs, List.getD] using this
def zeros4 (n : Nat) : Array Value := madeCells zeroP (n * 4)
theorem make_row4 (n : Nat) (hn : n ≤ 1000000000) (w : World) :
    (Instr.makeSlice 31 (.int .i64 (n : Int)) (.int .i64 (n : Int))).run Tryd.prog w = .ok (.slice (some ⟨w.heap.size, 0, none⟩) n n) (w.alloc (.cells (zeros4 n) 93)) := by
  obtain ⟨i, hi, hzz⟩ := Option.map_eq_some_iff.1 Tryd.infoPair
  simp only [Prod.mk.injEq] at hzz
  obtain ⟨hz, hs, hb⟩ := hzz
  have hr := run_make (P := Tryd.prog) w 31 93 i _ Tryd.underlying31 hi hz .i64 .i64 n n (by omega) (Int.le_refl _) (by rw [hb]; omega) (by omega)
  simp only [Int.toNat_natCast, hs] at hr
  exact hr

/-- A row of k places, of which the first hold the pairs l. -/
def RowK (g k : Nat) (l : List PR) (w : World) : Prop :=
  ∃ cs, w.heap[g]? = some (.cells cs 93 (0, 0)) ∧ cs.size = k * 4 ∧ l.length ≤ k ∧ ∀ i, i < l.length →
    cs[i * 4]? = some (.string (l.getD i noP).n) ∧ cs[i * 4 + 1]? = some (.int .i64 (l.getD i noP).t.kind) ∧ cs[i * 4 + 2]? = some (.string (l.getD i noP).t.name) ∧ cs[i * 4 + 3]? = some (.slice (l.getD i noP).a (l.getD i noP).t.kids.length (l.getD i noP).c)
theorem RowK.row {g k : Nat} {l : List PR} {w : World} (h : RowK g k l w) : RowP g l w := by
  obtain ⟨cs, h1, h2, h3, h4⟩ := h; exact ⟨cs, h1, by omega, h4⟩
theorem RowK.same {g k : Nat} {l : List PR} {w w' : World} (h : RowK g k l w) (e : w'.heap[g]? = w.heap[g]?) : RowK g k l w' := by
  obtain ⟨cs, h1, h2⟩ := h; exact ⟨cs, e.trans h1, h2⟩
theorem RowK.lt {g k : Nat} {l : List PR} {w : World} (h : RowK g k l w) : g < w.heap.size := h.row.lt
theorem RowK.below {g k : Nat} {l : List PR} {w w' : World} (h : RowK g k l w) (hb : Below w.heap.size w w') : RowK g k l w' := h.same (hb.block g h.lt)
theorem RowK.cells {g k : Nat} {l : List PR} {w : World} (h : RowK g k l w) {i : Nat} (hi : i < k) : ∃ x y z u, w.cell? ⟨g, i * 4, none⟩ = some x ∧ w.cell? ⟨g, i * 4 + 1, none⟩ = some y ∧ w.cell? ⟨g, i * 4 + 2, none⟩ = some z ∧ w.cell? ⟨g, i * 4 + 3, none⟩ = some u := by
  obtain ⟨cs, h1, h2, _⟩ := h
  refine ⟨cs[i * 4]'(by omega), cs[i * 4 + 1]'(by omega), cs[i * 4 + 2]'(by omega), cs[i * 4 + 3]'(by omega), ?_, ?_, ?_, ?_⟩ <;> (rw [Lib.cell_of_heap h1]; simp)
theorem RowK.push {g k : Nat} {l : List PR} {w : World} (h : RowK g k l w) (hk : l.length < k) (x : PR) : RowK g k (l ++ [x]) (set4 w g l.length x) := by
  obtain ⟨cs, h1, h2, h3, h4⟩ := h
  refine ⟨(((cs.setIfInBounds (l.length * 4) (.string x.n)).setIfInBounds (l.length * 4 + 1) (.int .i64 x.t.kind)).setIfInBounds (l.length * 4 + 2) (.string x.t.name)).setIfInBounds (l.length * 4 + 3) (.slice x.a x.t.kids.length x.c), blk_set (blk_set (blk_set (blk_set h1 _) _) _) _, by simpa using h2, by simp; omega, fun j hj => ?_⟩
  by_cases e : j = l.length
  · subst e
    have e2 : (l ++ [x]).getD l.length noP = x := by simp [List.getD]
    rw [e2]
    refine ⟨?_, ?_, ?_, ?_⟩ <;> (simp [Array.getElem?_setIfInBounds]; omega)
  · have hj' : j < l.length := by simp at hj; omega
    have e2 : (l ++ [x]).getD j noP = l.getD j noP := by simp [List.getD, List.getElem?_append_left hj']
    rw [e2]
    obtain ⟨a1, a2, a3, a4⟩ := h4 j hj'
    refine ⟨?_, ?_, ?_, ?_⟩
    · rw [Array.getElem?_setIfInBounds_ne (by omega), Array.getElem?_setIfInBounds_ne (by omega), Array.getElem?_setIfInBounds_ne (by omega), Array.getElem?_setIfInBounds_ne (by omega)]; exact a1
    · rw [Array.getElem?_setIfInBounds_ne (by omega), Array.getElem?_setIfInBounds_ne (by omega), Array.getElem?_setIfInBounds_ne (by omega), Array.getElem?_setIfInBounds_ne (by omega)]; exact a2
    · rw [Array.getElem?_setIfInBounds_ne (by omega), Array.getElem?_setIfInBounds_ne (by omega), Array.getElem?_setIfInBounds_ne (by omega), Array.getElem?_setIfInBounds_ne (by omega)]; exact a3
    · rw [Array.getElem?_setIfInBounds_ne (by omega), Array.getElem?_setIfInBounds_ne (by omega), Array.getElem?_setIfInBounds_ne (by omega), Array.getElem?_setIfInBounds_ne (by omega)]; exact a4
theorem RowK.start (g k : Nat) (w : World) (h : w.heap[g]? = some (.cells (zeros4 k) 93 (0, 0))) : RowK g k [] w :=
  ⟨_, h, by simp [zeros4, size_madeCells], Nat.zero_le _, fun _ hi => absurd hi (Nat.not_lt_zero _)⟩

theorem gather_all (g cap : Nat) (d : List PR) (w : World) (h : RowP g d w) (ht : Typ d w) (hf : FitsAll d) (hc : d.length ≤ cap) (hl : d.length < 20) :
    Calls Tryd.prog 63 #[.slice (some ⟨g, 0, none⟩) d.length cap] w fun e w' => (∃ l, e = .returned (.agg #[.slice (some ⟨g, 0, none⟩) l.length cap]) ∧ SubAt (.slice (some ⟨g, 0, none⟩) l.length cap) l w' ∧ Gath d l) ∧ Fr g w w' := by
  by_cases h0 : d = []
  · subst h0
    refine (gather_none _ _ w).mono ?_
    rintro e w' ⟨rfl, hb⟩
    exact ⟨⟨[], rfl, sub_nil _ _ _ (fun h => by cases h), gath_nil⟩, Fr.of_below hb⟩
  · refine (gather_some g cap d w h ht hf hc hl h0).mono ?_
    rintro e w' ⟨⟨l, ⟨rfl, hlc⟩, hr, hg⟩, hfr⟩
    exact ⟨⟨l, rfl, ⟨⟨.inr ⟨g, cap, rfl, hlc, hr⟩, hg.neat⟩, fun x hx => (ht x (hg.sub x hx)).keep (hfr.keepT h)⟩, hg⟩, hfr⟩

end Go.Proofs.YthpphjkoiipkkaaDoor
/- Numbers taken one by one; the types that are made of them. -/
namespace Go.Proofs.YthpphjkoiipkkaaDoor
open Go.RowKit
attribute [local go_sem] Oper.semAt_some
attribute [local go_sem ↓] Go.wp_at_zero Go.wp_at_succ

theorem block_set {W : World} {b o : Nat} {cs : Array Value} {T : TypeId} {m : Nat × Nat} (h : W.heap[b]? = some (.cells cs T m)) (v : Value) : (W.setCell ⟨b, o, none⟩ v).heap[b]? = some (.cells (cs.setIfInBounds o v) T m) := by
  obtain ⟨hlt, hk⟩ := Array.getElem?_eq_some_iff.1 h
  show (W.heap.modify b _)[b]? = _
  rw [Array.getElem?_eq_getElem (by rw [Array.size_modify]; exact hlt), Array.getElem_modify_self, hk]
  rfl
theorem ret_int {x y : Int} (h : x = y) : Ending.returned (.int .i64 x) = Ending.returned (.int .i64 y) := by rw [h]

theorem number_any (z : Int) (n : Nat) (w : World) (_ : -9223372036854775808 ≤ z) (_ : z ≤ 9223372036854775807) (hn0 : 0 < n) (hn : n ≤ 1000000) :
    Calls Tryd.prog 22 #[.int .i64 z, .int .i64 (n : Int)] w fun e w' => ∃ r : Nat, r < n ∧ e = .returned (.int .i64 (r : Int)) ∧ w = w' := by
  have k1 := Int.tmod_lt_of_pos z (show (0 : Int) < (n : Int) by omega)
  have k2 := Int.lt_tmod_of_pos z (show (0 : Int) < (n : Int) by omega)
  obtain ⟨q, hq⟩ : ∃ q, z.tmod (n : Int) = q := ⟨_, rfl⟩
  rw [hq] at k1 k2
  have hn1 : ((n : Int) == 0) = false := by simp; omega
  go_enter Tryd.func22, Tryd.ntmps22
  go_wp2
  · go_ret
    exact ⟨(q + n).toNat, by omega, ret_int (by omega), rfl⟩
  · go_ret
    exact ⟨q.toNat, by omega, ret_int (by omega), rfl⟩

/-- The ints of a row, in memory below B. -/
def IntsAt (B : Nat) (a : Option Addr) (n : Nat) (w : World) : Prop :=
  n = 0 ∨ ∃ g o, a = some ⟨g, o, none⟩ ∧ g < B ∧ ∀ i, i < n → ∃ z : Int, w.cell? ⟨g, o + i, none⟩ = some (.int .i64 z) ∧ -9223372036854775808 ≤ z ∧ z ≤ 9223372036854775807
/-- A Seq at block p, which has given k numbers. -/
def SeqAt (B p : Nat) (a : Option Addr) (n c k : Nat) (w : World) : Prop :=
  (B ≤ p ∧ w.heap[p]? = some (.cells #[.slice a n c, .int .i64 (k : Int)] 26 (0, 0))) ∧ IntsAt B a n w
/-- What a maker leaves as it was: all below B, and all but its Seq. -/
def MkFr (B p : Nat) (w w' : World) : Prop := Below B w w' ∧ ∀ k o, w.heap[k]? = some o → k ≠ p → w'.heap[k]? = some o
theorem MkFr.refl (B p : Nat) (w : World) : MkFr B p w w := ⟨Below.refl _ _, fun _ _ h _ => h⟩
theorem MkFr.trans {B p : Nat} {x y z : World} (h : MkFr B p x y) (k : MkFr B p y z) : MkFr B p x z := ⟨h.1.trans k.1, fun i o hi hp => k.2 i o (h.2 i o hi hp) hp⟩
theorem MkFr.of_below {B p : Nat} {w w' : World} (h : Below w.heap.size w w') (hB : B ≤ w.heap.size) : MkFr B p w w' := ⟨h.mono hB, fun k _ hk _ => (h.block k (Array.getElem?_eq_some_iff.1 hk).1).trans hk⟩
theorem IntsAt.keep {B : Nat} {a : Option Addr} {n : Nat} {w w' : World} (h : IntsAt B a n w) (hb : Below B w w') : IntsAt B a n w' := by
  rcases h with h | ⟨g, o, e, hg, hi⟩
  · exact .inl h
  · refine .inr ⟨g, o, e, hg, fun i h => ?_⟩
    obtain ⟨z, hz, r⟩ := hi i h
    exact ⟨z, (hb.cell (p := ⟨g, o + i, none⟩) hg).trans hz, r⟩
theorem SeqAt.below {B p : Nat} {a : Option Addr} {n c k : Nat} {w w' : World} (h : SeqAt B p a n c k w) (hb : Below w.heap.size w w') : SeqAt B p a n c k w' := by
  have hp := (Array.getElem?_eq_some_iff.1 h.1.2).1
  exact ⟨⟨h.1.1, (hb.block p hp).trans h.1.2⟩, h.2.keep (hb.mono (by have := h.1.1; omega))⟩
theorem SeqAt.lt {B p : Nat} {a : Option Addr} {n c k : Nat} {w : World} (h : SeqAt B p a n c k w) : p < w.heap.size := (Array.getElem?_eq_some_iff.1 h.1.2).1
theorem KeepT.of_mk {B p : Nat} {a : Option Addr} {n c k : Nat} {w w' : World} (h : MkFr B p w w') (hs : SeqAt B p a n c k w) : KeepT w w' := by
  intro i cs fz hi
  refine h.2 i _ hi fun e => ?_
  subst e
  have := hi.symm.trans hs.1.2
  simp at this

set_option maxHeartbeats 1000000 in
theorem next_any (B p : Nat) (a : Option Addr) (n c k m : Nat) (w : World) (h : SeqAt B p a n c k w) (hm0 : 0 < m) (hm : m ≤ 1000000) (hk : k < 1152921504606846976) (_ : n < 1152921504606846976) :
    Calls Tryd.prog 23 #[.pointer (some ⟨p, 0, none⟩), .int .i64 (m : Int)] w fun e w' => (∃ r : Nat, r < m ∧ e = .returned (.int .i64 (r : Int))) ∧ SeqAt B p a n c (k + 1) w' ∧ MkFr B p w w' := by
  obtain ⟨⟨hB, hp⟩, hi⟩ := h
  have c0 : w.cell? ⟨p, 0, none⟩ = some (.slice a n c) := by rw [Lib.cell_of_heap hp]; rfl
  have c1 : w.cell? ⟨p, 1, none⟩ = some (.int .i64 (k : Int)) := by rw [Lib.cell_of_heap hp]; rfl
  have f1 : w.frozen? ⟨p, 1, none⟩ = false := Lib.frozen_of_heap hp 1
  have HI := Lib.hid hi
  have HP := Lib.hid hp
  have HN := Lib.hid (fun z W h1 h2 => number_any z m W h1 h2 hm0 hm)
  clear hi hp
  have fin : ∀ W : World, Below B w W → (∀ i o, w.heap[i]? = some o → i ≠ p → W.heap[i]? = some o) → W.heap[p]? = some (.cells #[.slice a n c, .int .i64 ((k + 1 : Nat) : Int)] 26 (0, 0)) → SeqAt B p a n c (k + 1) W ∧ MkFr B p w W :=
    fun W hb ho h => ⟨⟨⟨hB, h⟩, HI.out.keep hb⟩, hb, ho⟩
  have HF := Lib.hid fin; clear fin
  by_cases hlt : k < n
  · have hlt' : ((k : Int) < (n : Int)) := by omega
    rcases HI.out with h0 | ⟨g, o, rfl, hg, hcell⟩
    · omega
    · obtain ⟨z, hz, hz1, hz2⟩ := hcell k hlt
      clear hcell
      go_enter Tryd.func23, Tryd.ntmps23
      go_wp2
      go_quiet (fail)
      go_wp2
      go_quiet (fail)
      go_wp2_with (go_at_call 22; refine (HN.out _ _ hz1 hz2).mono ?_)
      rintro e W2 ⟨r, hr, rfl, rfl⟩
      go_wp2
      go_ret
      refine ⟨⟨r, hr, rfl⟩, HF.out _ ?_ ?_ ?_⟩
      · exact (below_drewN (Below.refl _ _) _).setCell (p := ⟨p, 1, none⟩) hB _
      · intro i o' hi hip
        exact (Below.heap_setCell _ ⟨p, 1, none⟩ _ i hip).trans hi
      · exact (block_set (W := w.drewN _) (show (w.drewN _).heap[p]? = _ from HP.out) _)
  · have hlt' : ¬ ((k : Int) < (n : Int)) := by omega
    go_enter Tryd.func23, Tryd.ntmps23
    go_wp2
    go_quiet (fail)
    go_wp2_with (go_at_call 22; refine (HN.out 0 _ (by decide) (by decide)).mono ?_)
    rintro e W2 ⟨r, hr, rfl, rfl⟩
    go_wp2
    go_ret
    refine ⟨⟨r, hr, rfl⟩, HF.out _ ?_ ?_ ?_⟩
    · exact (below_drewN (Below.refl _ _) _).setCell (p := ⟨p, 1, none⟩) hB _
    · intro i o' hi hip
      exact (Below.heap_setCell _ ⟨p, 1, none⟩ _ i hip).trans hi
    · exact (block_set (W := w.drewN _) (show (w.drewN _).heap[p]? = _ from HP.out) _)
end Go.Proofs.YthpphjkoiipkkaaDoor
/- The types that are made of numbers: good ones, of a bounded text. -/
namespace Go.Proofs.YthpphjkoiipkkaaDoor
open Go.RowKit
attribute [local go_sem] Oper.semAt_some
attribute [local go_sem ↓] Go.wp_at_zero Go.wp_at_succ

theorem TyAt.elsewhere {w w' : World} {r : Nat} {b c : Value} {fz : Nat × Nat} (h0 : w.heap[r]? = some (.cells #[.int .i64 0, b, c] 29 fz)) (hk : ∀ k, k ≠ r → w'.heap[k]? = w.heap[k]?) {t : T} {k n v : Value} (h : TyAt w t k n v) : TyAt w' t k n v := by
  induction h with
  | leaf t a c h => exact .leaf t a c h
  | row t g cap cs fz x y z h1 h2 h3 h4 ih =>
    by_cases he : t.kids = []
    · rw [he]; exact .leaf t _ _ he
    · have h0t : 0 < t.kids.length := List.length_pos_iff.2 he
      have hg : g ≠ r := by
        rintro rfl
        rw [h0] at h1
        cases h1
        have e1 := (h3 0 h0t).1
        have e2 := (h4 0 h0t).shape.1
        have e3 : x 0 = .int .i64 0 := by simpa using e1.symm
        rw [e2] at e3
        have := (T.kind_pos t.kids[0]).1
        injection e3 with _ e4
        omega
      exact .row t g cap cs fz x y z ((hk g hg).trans h1) h2 h3 ih
theorem TysAt.elsewhere {w w' : World} {r : Nat} {b c : Value} {fz : Nat × Nat} (h0 : w.heap[r]? = some (.cells #[.int .i64 0, b, c] 29 fz)) (hk : ∀ k, k ≠ r → w'.heap[k]? = w.heap[k]?) {v : Value} {l : List T} (h : TysAt w v l) : TysAt w' v l := by
  rcases h with h | ⟨g, cap, cs, fz, x, y, z, rfl, h1, h2, h3, h4⟩
  · exact .inl h
  · by_cases he : l = []
    · subst he; exact .inl ⟨rfl, _, _, rfl⟩
    · have h0t : 0 < l.length := List.length_pos_iff.2 he
      have hg : g ≠ r := by
        rintro rfl
        rw [h0] at h1
        cases h1
        have e1 := (h3 0 h0t).1
        have e2 := (h4 0 h0t).shape.1
        have e3 : x 0 = .int .i64 0 := by simpa using e1.symm
        rw [e2] at e3
        have := (T.kind_pos l[0]).1
        injection e3 with _ e4
        omega
      exact .inr ⟨g, cap, cs, fz, x, y, z, rfl, (hk g hg).trans h1, h2, h3, fun i hi => (h4 i hi).elsewhere h0 hk⟩

theorem set3_cells {W : World} {r : Nat} {x0 y0 z0 : Value} {T : TypeId} (h : W.heap[r]? = some (.cells #[x0, y0, z0] T (0, 0))) (x y z : Value) :
    (((W.setCell ⟨r, 0, none⟩ x).setCell ⟨r, 1, none⟩ y).setCell ⟨r, 2, none⟩ z).cell? ⟨r, 0, none⟩ = some x ∧ (((W.setCell ⟨r, 0, none⟩ x).setCell ⟨r, 1, none⟩ y).setCell ⟨r, 2, none⟩ z).cell? ⟨r, 1, none⟩ = some y ∧
    (((W.setCell ⟨r, 0, none⟩ x).setCell ⟨r, 1, none⟩ y).setCell ⟨r, 2, none⟩ z).cell? ⟨r, 2, none⟩ = some z :=
  three_cells (block_set (o := 2) (block_set (o := 1) (block_set (o := 0) h x) y) z)
/-- What a maker of a type hands back. -/
def MadeT (B p : Nat) (a : Option Addr) (n c k m D : Nat) (w : World) (e : Ending) (w' : World) : Prop :=
  (∃ t u, e = .returned (tyV t u) ∧ (T.Good t ∧ Fits t ∧ (T.text t).length + 10 ≤ D) ∧ TysAt w' u t.kids) ∧ (∃ k', k' + 1 ≤ k + m ∧ SeqAt B p a n c k' w') ∧ MkFr B p w w'
/-- The end: the type is stored in the result's own block. -/
theorem made_fin {B p : Nat} {a : Option Addr} {n c k k' m D : Nat} {w W : World} {O : Obj} {t : T} {u x y z : Value} (hs : SeqAt B p a n c k' W) (hk : k' + 1 ≤ k + m) (hfr : MkFr B p (w.alloc O) W) (hp : p < w.heap.size)
    (h0 : W.heap[w.heap.size]? = some (.cells #[.int .i64 0, .string ⟨#[]⟩, .slice none 0 0] 29 (0, 0))) (ht : TysAt W u t.kids) (hg : T.Good t ∧ Fits t ∧ (T.text t).length + 10 ≤ D) :
    MadeT B p a n c k m D w (.returned (tyV t u)) (((W.setCell ⟨w.heap.size, 0, none⟩ x).setCell ⟨w.heap.size, 1, none⟩ y).setCell ⟨w.heap.size, 2, none⟩ z) := by
  have hk3 : ∀ i, i ≠ w.heap.size → (((W.setCell ⟨w.heap.size, 0, none⟩ x).setCell ⟨w.heap.size, 1, none⟩ y).setCell ⟨w.heap.size, 2, none⟩ z).heap[i]? = W.heap[i]? := fun i hi =>
    (Below.heap_setCell _ ⟨w.heap.size, 2, none⟩ _ i hi).trans ((Below.heap_setCell _ ⟨w.heap.size, 1, none⟩ _ i hi).trans (Below.heap_setCell _ ⟨w.heap.size, 0, none⟩ _ i hi))
  have hB := hs.1.1
  have hbel : Below B W (((W.setCell ⟨w.heap.size, 0, none⟩ x).setCell ⟨w.heap.size, 1, none⟩ y).setCell ⟨w.heap.size, 2, none⟩ z) :=
    (((Below.refl B W).setCell (p := ⟨w.heap.size, 0, none⟩) (by show B ≤ w.heap.size; omega) _).setCell (p := ⟨w.heap.size, 1, none⟩) (by show B ≤ w.heap.size; omega) _).setCell (p := ⟨w.heap.size, 2, none⟩) (by show B ≤ w.heap.size; omega) _
  refine ⟨⟨t, u, rfl, hg, ht.elsewhere h0 hk3⟩, ⟨k', hk, ⟨hB, (hk3 p (by omega)).trans hs.1.2⟩, hs.2.keep hbel⟩, ?_, ?_⟩
  · exact (((Below.refl B w).alloc (by omega) O).trans hfr.1).trans hbel
  · intro i o hi hip
    have hlt := (Array.getElem?_eq_some_iff.1 hi).1
    exact (hk3 i (by omega)).trans (hfr.2 i o ((Below.heap_alloc w O i hlt).trans hi) hip)

theorem good_var {n : ByteArray} {D : Nat} (h : n.data.toList ∈ T.vnames) (hs : n.size ≤ 4) (hD : 14 ≤ D) : T.Good (.var n) ∧ Fits (.var n) ∧ (T.text (.var n)).length + 10 ≤ D := by
  refine ⟨by rw [T.Good]; exact h, .mk _ (by simp [T.kids]) (by simp [T.kids]), ?_⟩
  rw [T.text, ← Lib.size_eq]; omega
theorem good_con0 {n : ByteArray} {D : Nat} (h : n.data.toList ∈ T.cnames) (hs : n.size ≤ 4) (hD : 14 ≤ D) : T.Good (.con n []) ∧ Fits (.con n []) ∧ (T.text (.con n [])).length + 10 ≤ D := by
  refine ⟨by rw [T.Good, T.Goods]; exact ⟨h, trivial⟩, .mk _ (by simp [T.kids]) (by simp [T.kids]), ?_⟩
  rw [T.text, T.texts, List.append_nil, ← Lib.size_eq]; omega
theorem br_len (b : Bool) (s : List UInt8) : (T.br b s).length ≤ s.length + 2 := by cases b <;> simp [T.br]
theorem arg_len (t : T) : (T.arg t).length ≤ (T.text t).length + 2 := br_len _ _
theorem good_con1 {n : ByteArray} {x : T} {D E : Nat} (h : n.data.toList ∈ T.cnames) (hs : n.size ≤ 4) (hx : T.Good x ∧ Fits x ∧ (T.text x).length + 10 ≤ D) (hE : 2 * D ≤ E) (_ : 14 ≤ D) : T.Good (.con n [x]) ∧ Fits (.con n [x]) ∧ (T.text (.con n [x])).length + 10 ≤ E := by
  refine ⟨by rw [T.Good, T.Goods, T.Goods]; exact ⟨h, hx.1, trivial⟩, .mk _ (by simp [T.kids]) (fun k hk => by simp [T.kids] at hk; subst hk; exact hx.2.1), ?_⟩
  have := arg_len x; have := hx.2.2
  rw [T.text, T.texts_cons, T.texts]
  simp only [List.length_append, List.length_cons, List.length_nil, ← Lib.size_eq]; omega
theorem good_con2 {n : ByteArray} {x y : T} {D E : Nat} (h : n.data.toList ∈ T.cnames) (hs : n.size ≤ 4) (hx : T.Good x ∧ Fits x ∧ (T.text x).length + 10 ≤ D) (hy : T.Good y ∧ Fits y ∧ (T.text y).length + 10 ≤ D) (hE : 2 * D ≤ E) : T.Good (.con n [x, y]) ∧ Fits (.con n [x, y]) ∧ (T.text (.con n [x, y])).length + 10 ≤ E := by
  refine ⟨by rw [T.Good, T.Goods, T.Goods, T.Goods]; exact ⟨h, hx.1, hy.1, trivial⟩, .mk _ (by simp [T.kids]) (fun k hk => by simp [T.kids] at hk; rcases hk with rfl | rfl; exact hx.2.1; exact hy.2.1), ?_⟩
  have := arg_len x; have := arg_len y; have := hx.2.2; have := hy.2.2
  rw [T.text, T.texts_cons, T.texts_cons, T.texts]
  simp only [List.length_append, List.length_cons, List.length_nil, ← Lib.size_eq]; omega
theorem good_fn {x y : T} {D E : Nat} (hx : T.Good x ∧ Fits x ∧ (T.text x).length + 10 ≤ D) (hy : T.Good y ∧ Fits y ∧ (T.text y).length + 10 ≤ D) (hE : 2 * D ≤ E) : T.Good (.fn x y) ∧ Fits (.fn x y) ∧ (T.text (.fn x y)).length + 10 ≤ E := by
  refine ⟨by rw [T.Good]; exact ⟨hx.1, hy.1⟩, .mk _ (by simp [T.kids]) (fun k hk => by simp [T.kids] at hk; rcases hk with rfl | rfl; exact hx.2.1; exact hy.2.1), ?_⟩
  have := br_len x.arrow x.text; have := hx.2.2; have := hy.2.2
  rw [T.text]
  simp only [List.length_append, List.length_cons, List.length_nil]; omega

set_option maxHeartbeats 4000000 in
theorem make_type0 (B p : Nat) (a : Option Addr) (n c k : Nat) (w : World) (h : SeqAt B p a n c k w) (hk : k < 1152921504606846976) (hn : n < 1152921504606846976) :
    Calls Tryd.prog 9 #[.pointer (some ⟨p, 0, none⟩), .int .i64 0] w (MadeT B p a n c k 2 14 w) := by
  have hp := h.lt
  have HN := Lib.hid (fun o => next_any B p a n c k 9 (w.alloc o) (h.below ((Below.refl _ w).alloc (Nat.le_refl _) o)) (by decide) (by decide) hk hn)
  have HNe := Lib.hid (show w.heap.size ≠ p by omega)
  clear h
  go_enter Tryd.func9, Tryd.ntmps9
  go_wp2_with (go_at_call 23; refine (HN.out _).mono ?_)
  rintro e W1 ⟨⟨r, hr, rfl⟩, h1, h2⟩
  have hz := h2.2 _ _ (alloc_new w _) HNe.out
  obtain ⟨c0, c1, c2⟩ := three_cells hz
  have f0 := Lib.frozen_of_heap hz 0
  have f1 := Lib.frozen_of_heap hz 1
  have f2 := Lib.frozen_of_heap hz 2
  have HZ := Lib.hid hz; have H1 := Lib.hid h1; have H2 := Lib.hid h2
  have hzl := (Array.getElem?_eq_some_iff.1 hz).1
  clear hz h1 h2
  obtain ⟨z, hz⟩ : ∃ z : Int, (r : Int) = z := ⟨_, rfl⟩
  rw [hz]
  have h9 : z = 0 ∨ z = 1 ∨ z = 2 ∨ z = 3 ∨ z = 4 ∨ z = 5 ∨ z = 6 ∨ z = 7 ∨ z = 8 := by omega
  clear hz hr
  rcases h9 with rfl | rfl | rfl | rfl | rfl | rfl | rfl | rfl | rfl
  · go_wp2_with (go_at_call 24; refine (var_any _ _).mono ?_)
    rintro e W2 ⟨⟨u, rfl, hu⟩, hb⟩
    have HBT := Lib.hid (((Below.refl _ W1).alloc (Nat.le_refl _) _).trans (hb.mono (by simp)))
    clear hb
    obtain ⟨a2, n2, rfl⟩ := hu.shape
    have hz2 : W2.heap[w.heap.size]? = some (.cells #[.int .i64 0, .string ⟨#[]⟩, .slice none 0 0] 29 (0, 0)) := (HBT.out.block _ hzl).trans HZ.out
    obtain ⟨d0, d1, d2⟩ := three_cells hz2
    have g0 := Lib.frozen_of_heap hz2 0
    have g1 := Lib.frozen_of_heap hz2 1
    have g2 := Lib.frozen_of_heap hz2 2
    have HZ2 := Lib.hid hz2; have HU := Lib.hid hu
    clear hz2 hu c0 c1 c2 f0 f1 f2
    simp only [tyV, T.kind, T.name, List.length_nil]
    go_wp2
    exact bodyPost_ret (v := .agg #[.int .i64 1, .string ⟨#[97]⟩, .slice a2 0 n2]) (by have hc := set3_cells HZ2.out (.int .i64 1) (.string ⟨#[97]⟩) (.slice a2 0 n2); simp [results, Tryd.results9, go_sem, hc.1, hc.2.1, hc.2.2]) rfl (made_fin (t := .var ⟨#[97]⟩) (H1.out.below HBT.out) (by omega) (H2.out.trans (MkFr.of_below HBT.out (Nat.le_trans H1.out.1.1 (Nat.le_of_lt H1.out.lt)))) hp HZ2.out HU.out (good_var (by decide) (by decide) (by decide)))
  · go_wp2_with (go_at_call 24; refine (var_any _ _).mono ?_)
    rintro e W2 ⟨⟨u, rfl, hu⟩, hb⟩
    have HBT := Lib.hid (((Below.refl _ W1).alloc (Nat.le_refl _) _).trans (hb.mono (by simp)))
    clear hb
    obtain ⟨a2, n2, rfl⟩ := hu.shape
    have hz2 : W2.heap[w.heap.size]? = some (.cells #[.int .i64 0, .string ⟨#[]⟩, .slice none 0 0] 29 (0, 0)) := (HBT.out.block _ hzl).trans HZ.out
    obtain ⟨d0, d1, d2⟩ := three_cells hz2
    have g0 := Lib.frozen_of_heap hz2 0
    have g1 := Lib.frozen_of_heap hz2 1
    have g2 := Lib.frozen_of_heap hz2 2
    have HZ2 := Lib.hid hz2; have HU := Lib.hid hu
    clear hz2 hu c0 c1 c2 f0 f1 f2
    simp only [tyV, T.kind, T.name, List.length_nil]
    go_wp2
    exact bodyPost_ret (v := .agg #[.int .i64 1, .string ⟨#[98]⟩, .slice a2 0 n2]) (by have hc := set3_cells HZ2.out (.int .i64 1) (.string ⟨#[98]⟩) (.slice a2 0 n2); simp [results, Tryd.results9, go_sem, hc.1, hc.2.1, hc.2.2]) rfl (made_fin (t := .var ⟨#[98]⟩) (H1.out.below HBT.out) (by omega) (H2.out.trans (MkFr.of_below HBT.out (Nat.le_trans H1.out.1.1 (Nat.le_of_lt H1.out.lt)))) hp HZ2.out HU.out (good_var (by decide) (by decide) (by decide)))
  · go_wp2_with (go_at_call 24; refine (var_any _ _).mono ?_)
    rintro e W2 ⟨⟨u, rfl, hu⟩, hb⟩
    have HBT := Lib.hid (((Below.refl _ W1).alloc (Nat.le_refl _) _).trans (hb.mono (by simp)))
    clear hb
    obtain ⟨a2, n2, rfl⟩ := hu.shape
    have hz2 : W2.heap[w.heap.size]? = some (.cells #[.int .i64 0, .string ⟨#[]⟩, .slice none 0 0] 29 (0, 0)) := (HBT.out.block _ hzl).trans HZ.out
    obtain ⟨d0, d1, d2⟩ := three_cells hz2
    have g0 := Lib.frozen_of_heap hz2 0
    have g1 := Lib.frozen_of_heap hz2 1
    have g2 := Lib.frozen_of_heap hz2 2
    have HZ2 := Lib.hid hz2; have HU := Lib.hid hu
    clear hz2 hu c0 c1 c2 f0 f1 f2
    simp only [tyV, T.kind, T.name, List.length_nil]
    go_wp2
    exact bodyPost_ret (v := .agg #[.int .i64 1, .string ⟨#[99]⟩, .slice a2 0 n2]) (by have hc := set3_cells HZ2.out (.int .i64 1) (.string ⟨#[99]⟩) (.slice a2 0 n2); simp [results, Tryd.results9, go_sem, hc.1, hc.2.1, hc.2.2]) rfl (made_fin (t := .var ⟨#[99]⟩) (H1.out.below HBT.out) (by omega) (H2.out.trans (MkFr.of_below HBT.out (Nat.le_trans H1.out.1.1 (Nat.le_of_lt H1.out.lt)))) hp HZ2.out HU.out (good_var (by decide) (by decide) (by decide)))
  · go_wp2_with (go_at_call 25; refine (con_any _ none [] 0 0 _ (TysAt.nil _ _ _)).mono ?_)
    rintro e W2 ⟨⟨u, rfl, hu⟩, hb⟩
    have HBT := Lib.hid hb
    clear hb
    obtain ⟨a2, n2, rfl⟩ := hu.shape
    have hz2 : W2.heap[w.heap.size]? = some (.cells #[.int .i64 0, .string ⟨#[]⟩, .slice none 0 0] 29 (0, 0)) := (HBT.out.block _ hzl).trans HZ.out
    obtain ⟨d0, d1, d2⟩ := three_cells hz2
    have g0 := Lib.frozen_of_heap hz2 0
    have g1 := Lib.frozen_of_heap hz2 1
    have g2 := Lib.frozen_of_heap hz2 2
    have HZ2 := Lib.hid hz2; have HU := Lib.hid hu
    clear hz2 hu c0 c1 c2 f0 f1 f2
    simp only [tyV, T.kind, T.name, List.length_nil]
    go_wp2
    exact bodyPost_ret (v := .agg #[.int .i64 2, .string ⟨#[73, 110, 116]⟩, .slice a2 0 n2]) (by have hc := set3_cells HZ2.out (.int .i64 2) (.string ⟨#[73, 110, 116]⟩) (.slice a2 0 n2); simp [results, Tryd.results9, go_sem, hc.1, hc.2.1, hc.2.2]) rfl (made_fin (t := .con ⟨#[73, 110, 116]⟩ []) (H1.out.below HBT.out) (by omega) (H2.out.trans (MkFr.of_below HBT.out (Nat.le_trans H1.out.1.1 (Nat.le_of_lt H1.out.lt)))) hp HZ2.out HU.out (good_con0 (by decide) (by decide) (by decide)))
  · go_wp2_with (go_at_call 25; refine (con_any _ none [] 0 0 _ (TysAt.nil _ _ _)).mono ?_)
    rintro e W2 ⟨⟨u, rfl, hu⟩, hb⟩
    have HBT := Lib.hid hb
    clear hb
    obtain ⟨a2, n2, rfl⟩ := hu.shape
    have hz2 : W2.heap[w.heap.size]? = some (.cells #[.int .i64 0, .string ⟨#[]⟩, .slice none 0 0] 29 (0, 0)) := (HBT.out.block _ hzl).trans HZ.out
    obtain ⟨d0, d1, d2⟩ := three_cells hz2
    have g0 := Lib.frozen_of_heap hz2 0
    have g1 := Lib.frozen_of_heap hz2 1
    have g2 := Lib.frozen_of_heap hz2 2
    have HZ2 := Lib.hid hz2; have HU := Lib.hid hu
    clear hz2 hu c0 c1 c2 f0 f1 f2
    simp only [tyV, T.kind, T.name, List.length_nil]
    go_wp2
    exact bodyPost_ret (v := .agg #[.int .i64 2, .string ⟨#[66, 111, 111, 108]⟩, .slice a2 0 n2]) (by have hc := set3_cells HZ2.out (.int .i64 2) (.string ⟨#[66, 111, 111, 108]⟩) (.slice a2 0 n2); simp [results, Tryd.results9, go_sem, hc.1, hc.2.1, hc.2.2]) rfl (made_fin (t := .con ⟨#[66, 111, 111, 108]⟩ []) (H1.out.below HBT.out) (by omega) (H2.out.trans (MkFr.of_below HBT.out (Nat.le_trans H1.out.1.1 (Nat.le_of_lt H1.out.lt)))) hp HZ2.out HU.out (good_con0 (by decide) (by decide) (by decide)))
  · go_wp2_with (go_at_call 24; refine (var_any _ _).mono ?_)
    rintro e W2 ⟨⟨u, rfl, hu⟩, hb⟩
    have HBT := Lib.hid (((Below.refl _ W1).alloc (Nat.le_refl _) _).trans (hb.mono (by simp)))
    clear hb
    obtain ⟨a2, n2, rfl⟩ := hu.shape
    have hz2 : W2.heap[w.heap.size]? = some (.cells #[.int .i64 0, .string ⟨#[]⟩, .slice none 0 0] 29 (0, 0)) := (HBT.out.block _ hzl).trans HZ.out
    obtain ⟨d0, d1, d2⟩ := three_cells hz2
    have g0 := Lib.frozen_of_heap hz2 0
    have g1 := Lib.frozen_of_heap hz2 1
    have g2 := Lib.frozen_of_heap hz2 2
    have HZ2 := Lib.hid hz2; have HU := Lib.hid hu
    clear hz2 hu c0 c1 c2 f0 f1 f2
    simp only [tyV, T.kind, T.name, List.length_nil]
    go_wp2
    exact bodyPost_ret (v := .agg #[.int .i64 1, .string ⟨#[97]⟩, .slice a2 0 n2]) (by have hc := set3_cells HZ2.out (.int .i64 1) (.string ⟨#[97]⟩) (.slice a2 0 n2); simp [results, Tryd.results9, go_sem, hc.1, hc.2.1, hc.2.2]) rfl (made_fin (t := .var ⟨#[97]⟩) (H1.out.below HBT.out) (by omega) (H2.out.trans (MkFr.of_below HBT.out (Nat.le_trans H1.out.1.1 (Nat.le_of_lt H1.out.lt)))) hp HZ2.out HU.out (good_var (by decide) (by decide) (by decide)))
  · go_wp2_with (go_at_call 24; refine (var_any _ _).mono ?_)
    rintro e W2 ⟨⟨u, rfl, hu⟩, hb⟩
    have HBT := Lib.hid (((Below.refl _ W1).alloc (Nat.le_refl _) _).trans (hb.mono (by simp)))
    clear hb
    obtain ⟨a2, n2, rfl⟩ := hu.shape
    have hz2 : W2.heap[w.heap.size]? = some (.cells #[.int .i64 0, .string ⟨#[]⟩, .slice none 0 0] 29 (0, 0)) := (HBT.out.block _ hzl).trans HZ.out
    obtain ⟨d0, d1, d2⟩ := three_cells hz2
    have g0 := Lib.frozen_of_heap hz2 0
    have g1 := Lib.frozen_of_heap hz2 1
    have g2 := Lib.frozen_of_heap hz2 2
    have HZ2 := Lib.hid hz2; have HU := Lib.hid hu
    clear hz2 hu c0 c1 c2 f0 f1 f2
    simp only [tyV, T.kind, T.name, List.length_nil]
    go_wp2
    exact bodyPost_ret (v := .agg #[.int .i64 1, .string ⟨#[98]⟩, .slice a2 0 n2]) (by have hc := set3_cells HZ2.out (.int .i64 1) (.string ⟨#[98]⟩) (.slice a2 0 n2); simp [results, Tryd.results9, go_sem, hc.1, hc.2.1, hc.2.2]) rfl (made_fin (t := .var ⟨#[98]⟩) (H1.out.below HBT.out) (by omega) (H2.out.trans (MkFr.of_below HBT.out (Nat.le_trans H1.out.1.1 (Nat.le_of_lt H1.out.lt)))) hp HZ2.out HU.out (good_var (by decide) (by decide) (by decide)))
  · go_wp2_with (go_at_call 24; refine (var_any _ _).mono ?_)
    rintro e W2 ⟨⟨u, rfl, hu⟩, hb⟩
    have HBT := Lib.hid (((Below.refl _ W1).alloc (Nat.le_refl _) _).trans (hb.mono (by simp)))
    clear hb
    obtain ⟨a2, n2, rfl⟩ := hu.shape
    have hz2 : W2.heap[w.heap.size]? = some (.cells #[.int .i64 0, .string ⟨#[]⟩, .slice none 0 0] 29 (0, 0)) := (HBT.out.block _ hzl).trans HZ.out
    obtain ⟨d0, d1, d2⟩ := three_cells hz2
    have g0 := Lib.frozen_of_heap hz2 0
    have g1 := Lib.frozen_of_heap hz2 1
    have g2 := Lib.frozen_of_heap hz2 2
    have HZ2 := Lib.hid hz2; have HU := Lib.hid hu
    clear hz2 hu c0 c1 c2 f0 f1 f2
    simp only [tyV, T.kind, T.name, List.length_nil]
    go_wp2
    exact bodyPost_ret (v := .agg #[.int .i64 1, .string ⟨#[99]⟩, .slice a2 0 n2]) (by have hc := set3_cells HZ2.out (.int .i64 1) (.string ⟨#[99]⟩) (.slice a2 0 n2); simp [results, Tryd.results9, go_sem, hc.1, hc.2.1, hc.2.2]) rfl (made_fin (t := .var ⟨#[99]⟩) (H1.out.below HBT.out) (by omega) (H2.out.trans (MkFr.of_below HBT.out (Nat.le_trans H1.out.1.1 (Nat.le_of_lt H1.out.lt)))) hp HZ2.out HU.out (good_var (by decide) (by decide) (by decide)))
  · go_wp2_with (go_at_call 25; refine (con_any _ none [] 0 0 _ (TysAt.nil _ _ _)).mono ?_)
    rintro e W2 ⟨⟨u, rfl, hu⟩, hb⟩
    have HBT := Lib.hid hb
    clear hb
    obtain ⟨a2, n2, rfl⟩ := hu.shape
    have hz2 : W2.heap[w.heap.size]? = some (.cells #[.int .i64 0, .string ⟨#[]⟩, .slice none 0 0] 29 (0, 0)) := (HBT.out.block _ hzl).trans HZ.out
    obtain ⟨d0, d1, d2⟩ := three_cells hz2
    have g0 := Lib.frozen_of_heap hz2 0
    have g1 := Lib.frozen_of_heap hz2 1
    have g2 := Lib.frozen_of_heap hz2 2
    have HZ2 := Lib.hid hz2; have HU := Lib.hid hu
    clear hz2 hu c0 c1 c2 f0 f1 f2
    simp only [tyV, T.kind, T.name, List.length_nil]
    go_wp2
    exact bodyPost_ret (v := .agg #[.int .i64 2, .string ⟨#[73, 110, 116]⟩, .slice a2 0 n2]) (by have hc := set3_cells HZ2.out (.int .i64 2) (.string ⟨#[73, 110, 116]⟩) (.slice a2 0 n2); simp [results, Tryd.results9, go_sem, hc.1, hc.2.1, hc.2.2]) rfl (made_fin (t := .con ⟨#[73, 110, 116]⟩ []) (H1.out.below HBT.out) (by omega) (H2.out.trans (MkFr.of_below HBT.out (Nat.le_trans H1.out.1.1 (Nat.le_of_lt H1.out.lt)))) hp HZ2.out HU.out (good_con0 (by decide) (by decide) (by decide)))

end Go.Proofs.YthpphjkoiipkkaaDoor
