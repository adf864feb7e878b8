/- Merged: SbOf, SbRen, Make, MakeType, MakeStep, MakeAll, SbSize, SbFirst, RegInv, SbOthersA, SbOthersR, SbPairs. -/
import Derived.Test.YtdcfemojkdoakaaVm2
import Derived.Shelf.SlicesE.Clone
import Derived.Test.YtdcfemojkdoakaaVm1
import Derived.Deep.RegionHeld3
import Derived.Deep.DrawnRows
import Derived.BigRegion
import Derived.Deep.RegionHeld
import Derived.Test.YtdcfemojkdoakaaProg
/- subst.Of: each variable its type, in memory of its own. -/
namespace Go.Proofs.Ytdcfemojkdoakaa
open Go.RowKit Go.Sort Go.Lib
attribute [local go_sem] Oper.semAt_some

def cloneRen : Go.Shelf.Ren := ⟨fun | 41 => 21 | n => n, fun | 4 => 4 | 22 => 34 | 23 => 60 | n => n, fun n => n⟩
theorem cloneLay : SlLaysE0.n41 Try.prog cloneRen :=
  { mixed := by kernel_rfl
    f41 := ⟨Try.f21.name, by decide, by kernel_rfl⟩
    t4 := by kernel_rfl
    a4 := fun _ => by kernel_rfl
    z4 := fun _ => by kernel_rfl
    v4 := fun _ => by kernel_rfl
    t22 := by kernel_rfl
    a22 := fun _ => by kernel_rfl
    z22 := fun _ => by kernel_rfl
    v22 := fun _ => by kernel_rfl }
theorem Try.infoPair : (Try.prog.info? 60).map (fun i => (i.zero, i.size, i.bytes)) = some (some (.agg zeroP), 4, 64) := by kernel_rfl
theorem flat_one (d : List PR) : ∀ u ∈ (flatK encP 4 d.toArray).toList, u.oneCell' = true := by
  intro u hu
  simp only [flatK, Array.toList_map, List.mem_map] at hu
  obtain ⟨i, _, rfl⟩ := hu
  have h4 : i % 4 < (encP (d.toArray[i / 4]!)).length := Nat.mod_lt _ (by decide)
  rw [getElem!_pos (encP (d.toArray[i / 4]!)) (i % 4) h4]
  exact encP_one _ _ (List.getElem_mem _)
theorem clone_some (g cap : Nat) (d : List PR) (w : World) (h : RowP g d w) (h0 : d ≠ []) (hl : d.length ≤ 1000000) :
    Calls Try.prog 21 #[.slice (some ⟨g, 0, none⟩) d.length cap] w fun e w' =>
      (∃ g' cap', (e = .returned (.slice (some ⟨g', 0, none⟩) d.length cap') ∧ d.length ≤ cap') ∧ w.heap.size ≤ g' ∧ RowP g' d w') ∧ Below w.heap.size w w' := by
  obtain ⟨i, hi, hzz⟩ := Option.map_eq_some_iff.1 Try.infoPair
  simp only [Prod.mk.injEq] at hzz
  obtain ⟨hz, hs, hb⟩ := hzz
  have hfl : (flatK encP 4 d.toArray).toList.length = d.length * 4 := by simp
  have hm : (1000000 : Nat) ≤ maxLen := by decide
  have hc : ∀ j u, (flatK encP 4 d.toArray).toList[j]? = some u → w.cell? ⟨g, 0 + j, none⟩ = some u := by
    intro j u hu
    obtain ⟨hj, e⟩ := List.getElem?_eq_some_iff.1 hu
    have hj' : j < (flatK encP 4 d.toArray).size := by simpa using hj
    rw [(h.holds j hj').1, getElem!_pos _ j hj']
    simpa using e
  have main : Calls Try.prog 21 _ _ _ := AnyE.slices_Clone cloneLay i (.agg zeroP) 4 64 hi hz hs hb (by rfl) (by decide) (fun _ => by kernel_rfl) g 0 d.length cap (flatK encP 4 d.toArray).toList w hfl (by omega) (by omega) hc (flat_one d)
  refine main.mono ?_
  rintro e w' ⟨v', rfl, ⟨_, ⟨_, hn⟩ | ⟨g', cap', cur, rfl, hg', hcur, hcap, _, hsz, htk⟩⟩, _, hb⟩
  · exact absurd (List.length_eq_zero_iff.1 hn) h0
  · refine ⟨⟨g', cap', ⟨rfl, hcap⟩, hg', ⟨cur, hcur, ?_, fun k hk => ?_⟩⟩, hb⟩
    · rw [hsz]; exact Nat.mul_le_mul_right 4 hcap
    · have hbg : d.toArray[k]! = d.getD k noP := (getD_list d k hk).symm
      have key : ∀ c, c < 4 → cur[k * 4 + c]? = some ((encP (d.getD k noP))[c]!) := by
        intro c hc4
        have hlt : k * 4 + c < d.length * 4 := by omega
        have e1 : (cur.toList.take (d.length * 4))[k * 4 + c]? = cur[k * 4 + c]? := by rw [List.getElem?_take_of_lt hlt]; simp
        rw [← e1, htk]
        have hF : k * 4 + c < (flatK encP 4 d.toArray).size := by simpa using hlt
        have e2 := get_flatK encP 4 d.toArray (k * 4 + c) (by simpa using hlt)
        rw [show (k * 4 + c) / 4 = k by omega, show (k * 4 + c) % 4 = c by omega, hbg, getElem!_pos (flatK encP 4 d.toArray) (k * 4 + c) hF] at e2
        rw [List.getElem?_eq_getElem (by simpa using hlt), ← e2]
        simp
      exact ⟨by simpa [encP] using key 0 (by decide), key 1 (by decide), key 2 (by decide), key 3 (by decide)⟩
theorem clone_nil (w : World) : Calls Try.prog 21 #[.slice none 0 0] w fun e w' => e = .returned (.slice none 0 0) ∧ w' = w :=
  AnyE.slices_Clone_nil cloneLay 0 0 w

/-- One list in another's place: the same names and types, elsewhere. -/
def Copy (l m : List PR) : Prop := l.length = m.length ∧ ∀ i, i < l.length → (l.getD i noP).n = (m.getD i noP).n ∧ (l.getD i noP).t = (m.getD i noP).t
theorem Copy.refl (l : List PR) : Copy l l := ⟨rfl, fun _ _ => ⟨rfl, rfl⟩⟩
theorem Copy.cons {x y : PR} {l m : List PR} (h : Copy (x :: l) (y :: m)) : (x.n = y.n ∧ x.t = y.t) ∧ Copy l m := by
  obtain ⟨h1, h2⟩ := h
  refine ⟨by simpa [List.getD] using h2 0 (by simp), by simpa using h1, fun i hi => by simpa [List.getD] using h2 (i + 1) (by simpa using hi)⟩
theorem Copy.lk {n : ByteArray} : ∀ {l m : List PR}, Copy l m → (lk n l).map PR.t = (lk n m).map PR.t
  | [], [], _ => rfl
  | [], _ :: _, h => absurd h.1 (by simp)
  | _ :: _, [], h => absurd h.1 (by simp)
  | x :: l, y :: m, h => by
    obtain ⟨⟨h1, h2⟩, h3⟩ := h.cons
    rw [lk_cons, lk_cons, h1]
    by_cases e : y.n = n
    · rw [if_pos e, if_pos e]; simp [h2]
    · rw [if_neg e, if_neg e]; exact h3.lk
theorem Copy.mem : ∀ {l m : List PR}, Copy l m → ∀ x ∈ l, ∃ y ∈ m, x.n = y.n ∧ x.t = y.t
  | [], _, _, x, hx => by cases hx
  | _ :: _, [], h, _, _ => absurd h.1 (by simp)
  | z :: l, y :: m, h, x, hx => by
    obtain ⟨h1, h3⟩ := h.cons
    rcases List.mem_cons.1 hx with rfl | hx
    · exact ⟨y, List.mem_cons_self .., h1⟩
    · obtain ⟨u, hu, e⟩ := h3.mem x hx
      exact ⟨u, List.mem_cons_of_mem _ hu, e⟩
theorem Copy.sorted : ∀ {l m : List PR}, Copy l m → Sorted m → Sorted l
  | [], _, _, _ => List.Pairwise.nil
  | _ :: _, [], h, _ => absurd h.1 (by simp)
  | x :: l, y :: m, h, hs => by
    obtain ⟨⟨h1, _⟩, h3⟩ := h.cons
    have hs' := List.pairwise_cons.1 hs
    refine List.pairwise_cons.2 ⟨fun z hz => ?_, h3.sorted hs'.2⟩
    obtain ⟨u, hu, e, _⟩ := h3.mem z hz
    have := hs'.1 u hu
    unfold cmpP at this ⊢
    rw [h1, e]; exact this
theorem Copy.neat {l m : List PR} (h : Copy l m) (hn : Neat m) : Neat l := by
  refine ⟨h.sorted hn.1, fun x hx => ?_⟩
  obtain ⟨y, hy, e1, e2⟩ := h.mem x hx
  have := hn.2 y hy
  cases ho : ownP x with
  | false => rfl
  | true =>
    have h1 := ownP_iff.1 ho
    rw [e1, e2] at h1
    rw [ownP_iff.2 h1] at this
    cases this
/-- What is made of a list of pairs. -/
structure Made (d l : List PR) : Prop where
  sub : ∀ x ∈ l, ∃ y ∈ d, x.n = y.n ∧ x.t = y.t
  len : l.length ≤ d.length
  same : ∀ n, ty n l = ty n d
theorem Gath.made {d l m : List PR} (h : Gath d l) (k : Copy m l) : Made d m :=
  ⟨fun x hx => by obtain ⟨y, hy, e⟩ := k.mem x hx; exact ⟨y, h.sub y hy, e⟩, by rw [k.1]; exact h.len, fun n => by rw [← h.same n]; unfold ty; rw [k.lk]⟩

theorem RowP.setT {g : Nat} {l : List PR} {w : World} (h : RowP g l w) (i : Nat) (x : PR) (hn : i < l.length → (l.getD i noP).n = x.n) :
    RowP g (l.set i x) (((w.setCell ⟨g, i * 4 + 1, none⟩ (.int .i64 x.t.kind)).setCell ⟨g, i * 4 + 1 + 1, none⟩ (.string x.t.name)).setCell ⟨g, i * 4 + 1 + 2, none⟩ (.slice x.a x.t.kids.length x.c)) := by
  obtain ⟨cs, h1, h2, h3⟩ := h
  refine ⟨((cs.setIfInBounds (i * 4 + 1) (.int .i64 x.t.kind)).setIfInBounds (i * 4 + 1 + 1) (.string x.t.name)).setIfInBounds (i * 4 + 1 + 2) (.slice x.a x.t.kids.length x.c), blk_set (blk_set (blk_set h1 _) _) _, by simpa using h2, fun j hj => ?_⟩
  have hj' : j < l.length := by simpa using hj
  by_cases e : j = i
  · subst e
    have e2 : (l.set j x).getD j noP = x := by simp [List.getD, hj']
    rw [e2]
    obtain ⟨a1, _⟩ := h3 j hj'
    rw [hn hj'] at a1
    refine ⟨?_, ?_, ?_, ?_⟩
    · rw [Array.getElem?_setIfInBounds_ne (by omega), Array.getElem?_setIfInBounds_ne (by omega), Array.getElem?_setIfInBounds_ne (by omega)]; exact a1
    · rw [Array.getElem?_setIfInBounds_ne (by omega), Array.getElem?_setIfInBounds_ne (by omega)]; simp [Array.getElem?_setIfInBounds]; omega
    · rw [Array.getElem?_setIfInBounds_ne (by omega)]; simp [Array.getElem?_setIfInBounds]; omega
    · simp [Array.getElem?_setIfInBounds]; omega
  · have e2 : (l.set i x).getD j noP = l.getD j noP := by simp [List.getD, Ne.symm e]
    rw [e2]
    obtain ⟨a1, a2, a3, a4⟩ := h3 j hj'
    refine ⟨?_, ?_, ?_, ?_⟩
    · rw [Array.getElem?_setIfInBounds_ne (by omega), Array.getElem?_setIfInBounds_ne (by omega), Array.getElem?_setIfInBounds_ne (by omega)]; exact a1
    · rw [Array.getElem?_setIfInBounds_ne (by omega), Array.getElem?_setIfInBounds_ne (by omega), Array.getElem?_setIfInBounds_ne (by omega)]; exact a2
    · rw [Array.getElem?_setIfInBounds_ne (by omega), Array.getElem?_setIfInBounds_ne (by omega), Array.getElem?_setIfInBounds_ne (by omega)]; exact a3
    · rw [Array.getElem?_setIfInBounds_ne (by omega), Array.getElem?_setIfInBounds_ne (by omega), Array.getElem?_setIfInBounds_ne (by omega)]; exact a4
theorem Fr.setT (g i : Nat) (w : World) (x : PR) : Fr g w (((w.setCell ⟨g, i * 4 + 1, none⟩ (.int .i64 x.t.kind)).setCell ⟨g, i * 4 + 1 + 1, none⟩ (.string x.t.name)).setCell ⟨g, i * 4 + 1 + 2, none⟩ (.slice x.a x.t.kids.length x.c)) :=
  ⟨below_set3' (Below.refl 0 w) (o := i * 4 + 1) (Nat.zero_le _) _ _ _, fun _ _ hg => set3_others' (o := i * 4 + 1) _ _ _ hg⟩
theorem Copy.set {l m : List PR} (h : Copy l m) (i : Nat) (a : Option Addr) (c : Nat) : Copy (l.set i { l.getD i noP with a := a, c := c }) m := by
  refine ⟨by simpa using h.1, fun j hj => ?_⟩
  have hj' : j < l.length := by simpa using hj
  by_cases e : j = i
  · subst e
    have e2 : (l.set j { l.getD j noP with a := a, c := c }).getD j noP = { l.getD j noP with a := a, c := c } := by simp [List.getD, hj']
    rw [e2]
    exact h.2 j hj'
  · have e2 : (l.set i { l.getD i noP with a := a, c := c }).getD j noP = l.getD j noP := by simp [List.getD, Ne.symm e]
    rw [e2]
    exact h.2 j hj'

set_option maxRecDepth 100000 in
set_option maxHeartbeats 4000000 in
theorem of_some (g cap : Nat) (d : List PR) (w : World) (h : RowP g d w) (ht : Typ d w) (hf : FitsAll d) (hz : SizedAll d) (hl : d.length < 20) (h0 : d ≠ []) :
    Calls Try.prog 17 #[.slice (some ⟨g, 0, none⟩) d.length cap] w fun e w' => (∃ v l, e = .returned (.agg #[v]) ∧ SubAt v l w' ∧ Made d l) ∧ Below w.heap.size w w' := by
  have HC := Lib.hid (fun o => clone_some g cap d (w.alloc o) (h.below ((Below.refl _ w).alloc (Nat.le_refl _) o)) h0 (by omega))
  have HG := Lib.hid (fun g' cap' W (hr : RowP g' d W) (hk : KeepT w W) (hc : d.length ≤ cap') => gather_some g' cap' d W hr (ht.keep hk) hf hc hl h0)
  have HT := Lib.hid ht; have HZ := Lib.hid hz
  have HB := Lib.hid (fun o => (Below.refl _ w).alloc (Nat.le_refl _) o)
  clear h ht hf hz h0
  go_enter Try.func17, Try.ntmps17
  go_wp2_with (go_at_call 21; refine (HC.out _).mono ?_)
  rintro e w1 ⟨⟨g', cap', ⟨rfl, hc'⟩, hg', hr'⟩, hb1⟩
  have HR1 := Lib.hid hr'
  have HB1 := Lib.hid ((HB.out (.cells #[.slice none 0 0] 36)).trans (hb1.mono (by simp)))
  have b1 := (hb1.block w.heap.size (by simp)).trans (alloc_new w _)
  have HX1 := Lib.hid b1
  have hgw : w.heap.size + 1 ≤ g' := by simpa using hg'
  clear hr' hb1 b1 hg' HC HB
  go_wp2_with (go_at_call 20; refine (HG.out g' cap' _ HR1.out (KeepT.of_below HB1.out) hc').mono ?_)
  rintro e w2 ⟨⟨l, ⟨rfl, hlc⟩, hr2, hga⟩, hf2⟩
  have HB2 := Lib.hid (HB1.out.trans (hf2.below (N := w.heap.size) (by omega) HB1.out.size))
  have HX2 := Lib.hid ((hf2.2 w.heap.size (Array.getElem?_eq_some_iff.1 HX1.out).1 (by omega)).trans HX1.out)
  have HR2 := Lib.hid hr2
  have HGa := Lib.hid hga
  have HT2 : Hid (Typ l w2) := Lib.hid fun x hx => (HT.out x (hga.sub x hx)).keep ((KeepT.of_below HB1.out).trans (hf2.keepT HR1.out))
  have HZ2 : Hid (SizedAll l) := Lib.hid fun x hx => HZ.out x (hga.sub x hx)
  have hlen := hga.len
  clear hr2 hf2 HX1 HR1 HB1 HG HT HZ hga
  have hlz : l.length < 20 := by omega
  go_wp2
  have lw2 : w.heap.size < w2.heap.size := (Array.getElem?_eq_some_iff.1 HX2.out).1
  have lg2 : g' < w2.heap.size := HR2.out.lt
  go_loopw [12] (fun vi wr => ∃ (i : Nat) (ls : List PR), i ≤ l.length ∧ vi = .int .i64 i ∧ Hid (Copy ls l) ∧ Hid (RowP g' ls wr) ∧ Hid (Typ ls wr) ∧ Hid (Below w.heap.size w wr) ∧
    wr.heap[w2.heap.size]? = some (.cells #[.slice (some ⟨g', 0, none⟩) l.length cap'] 36 (0, 0)) ∧ wr.heap[w.heap.size]? = some (.cells #[.slice none 0 0] 36 (0, 0))) (fun vi _ => l.length - (intOf vi).toNat)
  case atStart =>
    refine ⟨0, l, Nat.zero_le _, rfl, Lib.hid (Copy.refl l), Lib.hid (HR2.out.below ((Below.refl _ w2).alloc (Nat.le_refl _) _)), Lib.hid (HT2.out.keep (keepT_alloc w2 _)), Lib.hid (HB2.out.alloc HB2.out.size _), alloc_new w2 _, ?_⟩
    rw [Below.heap_alloc _ _ _ lw2]; exact HX2.out
  case round =>
    obtain ⟨i, ls, hi, rfl, hCp, hRow, hTy, hB, hb3, hb0⟩ := hrel
    have hll := hCp.out.1
    by_cases hlt : i < l.length
    · obtain ⟨x0, x1, x2, x3⟩ := hRow.out.cells (i := i) (by omega)
      have hmem := getD_mem (d := ls) (i := i) (by omega)
      have htx := hTy.out _ hmem
      have hzx : tsize (ls.getD i noP).t ≤ 1000000000 := by obtain ⟨y, hy, _, e2⟩ := hCp.out.mem _ hmem; rw [e2]; exact HZ2.out y hy
      have HO := Lib.hid (fun (W : World) (k : KeepT wr W) => own_any (w := W) hzx (htx.keep k))
      have HCs := Lib.hid (fun a c => hCp.out.set i a c)
      have HRs := Lib.hid (fun (W : World) (hr : RowP g' ls W) (a : Option Addr) (c : Nat) => hr.setT i { ls.getD i noP with a := a, c := c } (fun _ => rfl))
      have HTs : Hid (∀ (W : World) (a : Option Addr) (c : Nat), Typ ls W → TysAt W (.slice a (ls.getD i noP).t.kids.length c) (ls.getD i noP).t.kids → Typ (ls.set i { ls.getD i noP with a := a, c := c }) W) := Lib.hid fun W a c h1 h2 y hy => by
        rcases List.mem_or_eq_of_mem_set hy with h | rfl
        · exact h1 y h
        · exact h2
      have y3 : wr.cell? ⟨w2.heap.size, 0, none⟩ = some (.slice (some ⟨g', 0, none⟩) l.length cap') := by rw [Lib.cell_of_heap hb3]; rfl
      have l3 := (Array.getElem?_eq_some_iff.1 hb3).1
      have lgr := hRow.out.lt
      have Hb3 := Lib.hid hb3; have Hb0 := Lib.hid hb0
      clear hmem htx hzx hb3 hb0
      generalize ls.getD i noP = x at *
      simp only [tyV] at HO
      have hiz : (i : Int) < (l.length : Int) := by omega
      go_wp2
      have hbx := alloc_new wr (.cells #[.string x.n, .int .i64 x.t.kind, .string x.t.name, .slice x.a x.t.kids.length x.c] 60)
      have hbl := (Below.refl _ wr).alloc (Nat.le_refl _) (.cells #[.string x.n, .int .i64 x.t.kind, .string x.t.name, .slice x.a x.t.kids.length x.c] 60)
      obtain ⟨V, hV⟩ : ∃ V, wr.alloc (.cells #[.string x.n, .int .i64 x.t.kind, .string x.t.name, .slice x.a x.t.kids.length x.c] 60) = V := ⟨_, rfl⟩
      rw [hV] at hbx hbl ⊢
      clear hV x0 x1 x2 x3
      have hb3V := (hbl.block _ l3).trans Hb3.out
      have y3V : V.cell? ⟨w2.heap.size, 0, none⟩ = some (.slice (some ⟨g', 0, none⟩) l.length cap') := by rw [Lib.cell_of_heap hb3V]; rfl
      obtain ⟨q0, q1, q2, q3⟩ := four_cells hbx
      have l3V := (Array.getElem?_eq_some_iff.1 hb3V).1
      have HbV := Lib.hid hbl
      have Hb3V := Lib.hid hb3V
      clear hbx hbl hb3V y3
      go_region_with (first
        | (go_at_call 22; refine (HO.out V.drew (KeepT.of_below HbV.out.drew)).mono ?_; rintro e w4 ⟨⟨a4, c4, rfl, hin⟩, hb4⟩; have HI4 := Lib.hid hin.tys; have HB4 := Lib.hid (HbV.out.trans ((Below.refl _ V).drew.trans hb4 |>.mono HbV.out.size)); have hR4 := Lib.hid (hRow.out.below HB4.out); obtain ⟨o0, o1, o2, o3⟩ := hR4.out.cells (i := i) (by omega); have f1 := hR4.out.free (i * 4 + 1); have f2 := hR4.out.free (i * 4 + 1 + 1); have f3 := hR4.out.free (i * 4 + 1 + 2); have y4 : w4.cell? ⟨w2.heap.size, 0, none⟩ = some (.slice (some ⟨g', 0, none⟩) l.length cap') := (by rw [Lib.cell_of_heap ((HB4.out.block _ l3).trans Hb3.out)]; rfl); have lg4 := hR4.out.lt; have l34 := Nat.lt_of_lt_of_le l3 HB4.out.size; clear hin hb4; simp only [tyV]))
      all_goals
        go_wp2
        have HF := Lib.hid (Fr.setT g' i w4 { x with a := a4, c := c4 })
        have HFw := Lib.hid ((Fr.of_below (g := g') HB4.out).trans HF.out)
        have HK : Hid (∀ k, k ≠ g' → k < wr.heap.size → ((((w4.setCell ⟨g', i * 4 + 1, none⟩ (.int .i64 x.t.kind)).setCell ⟨g', i * 4 + 1 + 1, none⟩ (.string x.t.name)).setCell ⟨g', i * 4 + 1 + 2, none⟩ (.slice a4 x.t.kids.length c4))).heap[k]? = wr.heap[k]?) := Lib.hid fun k hk hkl => HFw.out.2 k hkl hk
        go_roundw
        case rel => exact ⟨i + 1, ls.set i { x with a := a4, c := c4 }, by omega, by go_num, Lib.hid (HCs.out a4 c4), Lib.hid (HRs.out w4 hR4.out a4 c4), Lib.hid (HTs.out _ a4 c4 (hTy.out.keep (HFw.out.keepT hRow.out)) (HI4.out.keep (HF.out.keepT hR4.out))), Lib.hid (hB.out.trans (HFw.out.below (by omega) hB.out.size)), (HK.out _ (by omega) l3).trans Hb3.out, (HK.out _ (by omega) (Nat.lt_of_lt_of_le (by omega) (Nat.le_of_lt l3))).trans Hb0.out⟩
        case measure => simp [intOf]; omega
    · obtain rfl : i = l.length := by omega
      have y3 : wr.cell? ⟨w2.heap.size, 0, none⟩ = some (.slice (some ⟨g', 0, none⟩) l.length cap') := by rw [Lib.cell_of_heap hb3]; rfl
      have y0 : wr.cell? ⟨w.heap.size, 0, none⟩ = some (.slice none 0 0) := by rw [Lib.cell_of_heap hb0]; rfl
      have y1 := Lib.frozen_of_heap hb0 0
      have Hb0 := Lib.hid hb0
      clear hb3 hb0
      go_wp2
      have hs := blk_set (o := 0) Hb0.out (.slice (some ⟨g', 0, none⟩) l.length cap')
      have hc0 : (wr.setCell ⟨w.heap.size, 0, none⟩ (.slice (some ⟨g', 0, none⟩) l.length cap')).cell? ⟨w.heap.size, 0, none⟩ = some (.slice (some ⟨g', 0, none⟩) l.length cap') := by rw [Lib.cell_of_heap hs]; rfl
      refine bodyPost_ret (v := .agg #[.slice (some ⟨g', 0, none⟩) l.length cap']) (by simp [results, Try.results17, go_sem, hc0]) rfl ⟨⟨_, ls, rfl, ⟨⟨.inr ⟨g', cap', by rw [hll], by omega, hRow.out.same (Below.heap_setCell _ ⟨w.heap.size, 0, none⟩ _ _ (by show g' ≠ w.heap.size; omega))⟩, hCp.out.neat HGa.out.neat⟩, hTy.out.keep ?_⟩, HGa.out.made hCp.out⟩, hB.out.setCell (p := ⟨w.heap.size, 0, none⟩) (Nat.le_refl _) _⟩
      intro k cs fz hk
      refine (Below.heap_setCell _ ⟨w.heap.size, 0, none⟩ _ k ?_).trans hk
      rintro rfl
      have := Hb0.out
      rw [hk] at this
      simp at this

theorem of_nil (w : World) :
    Calls Try.prog 17 #[.slice none 0 0] w fun e w' => (∃ v l, e = .returned (.agg #[v]) ∧ SubAt v l w' ∧ Made [] l) ∧ Below w.heap.size w w' := by
  have HB := Lib.hid (fun o => (Below.refl _ w).alloc (Nat.le_refl _) o)
  go_enter Try.func17, Try.ntmps17
  go_wp2_with (go_at_call 21; refine (clone_nil _).mono ?_; rintro e w1 ⟨rfl, rfl⟩)
  go_wp2_with (go_at_call 20; refine (gather_none none 0 _).mono ?_)
  rintro e w2 ⟨rfl, hb⟩
  have b2 := (hb.block w.heap.size (by simp)).trans (alloc_new w _)
  have HB2 := Lib.hid ((HB.out _).trans (hb.mono (by simp)))
  have y0 : w2.cell? ⟨w.heap.size, 0, none⟩ = some (.slice none 0 0) := by rw [Lib.cell_of_heap b2]; rfl
  have y1 := Lib.frozen_of_heap b2 0
  have l2 := (Array.getElem?_eq_some_iff.1 b2).1
  have Hb := Lib.hid b2
  clear hb b2 HB
  go_wp2
  refine wp_loop_rounds 1 ?_
  rw [rounds_succ]
  go_wp2
  have hs : ∀ o : Obj, ((w2.setCell ⟨w.heap.size, 0, none⟩ (.slice none 0 0)).alloc o).heap[w.heap.size]? = some (.cells #[.slice none 0 0] 36 (0, 0)) := fun o => by
    rw [Below.heap_alloc _ _ _ (by simpa using l2)]; exact blk_set (o := 0) Hb.out (.slice none 0 0)
  have hc0 : ((w2.setCell ⟨w.heap.size, 0, none⟩ (.slice none 0 0)).alloc (.cells #[.slice none 0 0] 36)).cell? ⟨w.heap.size, 0, none⟩ = some (.slice none 0 0) := by rw [Lib.cell_of_heap (hs _)]; rfl
  exact bodyPost_ret (v := .agg #[.slice none 0 0]) (by simp [results, Try.results17, go_sem, hc0]) rfl ⟨⟨_, [], rfl, sub_nil _ _ _ (fun _ => rfl), gath_nil.made (Copy.refl [])⟩, (HB2.out.setCell (p := ⟨w.heap.size, 0, none⟩) (Nat.le_refl _) _).alloc (by simp; omega) _⟩

/-- A list of pairs as it is handed in. -/
def GivenP (v : Value) (d : List PR) (w : World) : Prop := (d = [] ∧ v = .slice none 0 0) ∨ (d ≠ [] ∧ ∃ g cap, v = .slice (some ⟨g, 0, none⟩) d.length cap ∧ RowP g d w)
theorem of_any {v : Value} {d : List PR} {w : World} (h : GivenP v d w) (ht : Typ d w) (hf : FitsAll d) (hz : SizedAll d) (hl : d.length < 20) :
    Calls Try.prog 17 #[v] w fun e w' => (∃ v l, e = .returned (.agg #[v]) ∧ SubAt v l w' ∧ Made d l) ∧ Below w.heap.size w w' := by
  rcases h with ⟨rfl, rfl⟩ | ⟨h0, g, cap, rfl, hr⟩
  · exact of_nil w
  · exact of_some g cap d w hr ht hf hz hl h0
theorem app_congr {d d' : List PR} (h : ∀ n, ty n d = ty n d') : ∀ t, app d t = app d' t := by
  intro t
  match t with
  | .var n => rw [app, app]; exact h n
  | .con n l =>
    rw [app, app, apps_map, apps_map]
    congr 1
    exact List.map_congr_left fun k hk => app_congr h k
  | .fn a b => rw [app, app, app_congr h a, app_congr h b]
  | .all n a => rw [app, app, app_congr h a]
termination_by t => SizeOf.sizeOf t
decreasing_by
  · have := List.sizeOf_lt_of_mem hk; simp; omega
  · simp; omega
  · simp; omega
  · simp; omega
end Go.Proofs.Ytdcfemojkdoakaa
/- subst.Rename: names for names. -/
namespace Go.Proofs.Ytdcfemojkdoakaa
open Go.RowKit Go.Sort Go.Lib
attribute [local go_sem] Oper.semAt_some

/-- v is a slice of the strings F. -/
def StrsP (v : Value) (F : List ByteArray) (w : World) : Prop :=
  (F = [] ∧ ∃ a c, v = .slice a 0 c) ∨ ∃ g o cap, v = .slice (some ⟨g, o, none⟩) F.length cap ∧ g < w.heap.size ∧ ∀ i, i < F.length → w.cell? ⟨g, o + i, none⟩ = some (.string (F.getD i ⟨#[]⟩))
theorem StrsP.below {v : Value} {F : List ByteArray} {w w' : World} (h : StrsP v F w) (hb : Below w.heap.size w w') : StrsP v F w' := by
  rcases h with h | ⟨g, o, cap, e, hg, hc⟩
  · exact .inl h
  · exact .inr ⟨g, o, cap, e, Nat.lt_of_lt_of_le hg hb.size, fun i hi => (hb.cell (p := ⟨g, o + i, none⟩) hg).trans (hc i hi)⟩
theorem StrsP.shape {v : Value} {F : List ByteArray} {w : World} (h : StrsP v F w) : ∃ a c, v = .slice a F.length c := by
  rcases h with ⟨rfl, a, c, rfl⟩ | ⟨g, o, cap, rfl, _⟩
  · exact ⟨a, c, rfl⟩
  · exact ⟨_, _, rfl⟩
/-- At a place: where the string lies. -/
theorem StrsP.at {a : Option Addr} {n c : Nat} {F : List ByteArray} {w : World} (h : StrsP (.slice a n c) F w) (hn : 0 < F.length) : ∃ g o, a = some ⟨g, o, none⟩ ∧ g < w.heap.size ∧ ∀ i, i < F.length → w.cell? ⟨g, o + i, none⟩ = some (.string (F.getD i ⟨#[]⟩)) := by
  rcases h with ⟨rfl, _⟩ | ⟨g, o, cap, e, hg, hc⟩
  · exact absurd hn (Nat.lt_irrefl _)
  · cases e; exact ⟨g, o, rfl, hg, hc⟩
/-- The pairs that a renaming is. -/
def prs : List ByteArray → List ByteArray → List PR
  | f :: F, g :: G => ⟨f, .var g, none, 0⟩ :: prs F G
  | _, _ => []
theorem prs_len : ∀ F G, (prs F G).length = min F.length G.length
  | [], G => by simp [prs]
  | f :: F, [] => by simp [prs]
  | f :: F, g :: G => by rw [prs, List.length_cons, prs_len F G]; simp
theorem prs_get : ∀ (F G : List ByteArray) (i : Nat), i < min F.length G.length → ((prs F G).getD i noP).n = F.getD i ⟨#[]⟩ ∧ ((prs F G).getD i noP).t = .var (G.getD i ⟨#[]⟩)
  | [], G, i, h => by simp at h
  | f :: F, [], i, h => by simp at h
  | f :: F, g :: G, 0, h => ⟨rfl, rfl⟩
  | f :: F, g :: G, i + 1, h => by
    have := prs_get F G i (by simp at h ⊢; omega)
    simpa [prs, List.getD] using this
def zeros4 (n : Nat) : Array Value := madeCells zeroP (n * 4)
theorem make_row4 (n : Nat) (hn : n ≤ 1000000000) (w : World) :
    (Instr.makeSlice 34 (.int .i64 (n : Int)) (.int .i64 (n : Int))).run Try.prog w = .ok (.slice (some ⟨w.heap.size, 0, none⟩) n n) (w.alloc (.cells (zeros4 n) 60)) := by
  obtain ⟨i, hi, hzz⟩ := Option.map_eq_some_iff.1 Try.infoPair
  simp only [Prod.mk.injEq] at hzz
  obtain ⟨hz, hs, hb⟩ := hzz
  have hr := run_make (P := Try.prog) w 34 60 i _ Try.underlying34 hi hz .i64 .i64 n n (by omega) (Int.le_refl _) (by rw [hb]; omega) (by omega)
  simp only [Int.toNat_natCast, hs] at hr
  exact hr

/-- A row of k places, of which the first hold the pairs l. -/
def RowK (g k : Nat) (l : List PR) (w : World) : Prop :=
  ∃ cs, w.heap[g]? = some (.cells cs 60 (0, 0)) ∧ cs.size = k * 4 ∧ l.length ≤ k ∧ ∀ i, i < l.length →
    cs[i * 4]? = some (.string (l.getD i noP).n) ∧ cs[i * 4 + 1]? = some (.int .i64 (l.getD i noP).t.kind) ∧ cs[i * 4 + 2]? = some (.string (l.getD i noP).t.name) ∧ cs[i * 4 + 3]? = some (.slice (l.getD i noP).a (l.getD i noP).t.kids.length (l.getD i noP).c)
theorem RowK.row {g k : Nat} {l : List PR} {w : World} (h : RowK g k l w) : RowP g l w := by
  obtain ⟨cs, h1, h2, h3, h4⟩ := h; exact ⟨cs, h1, by omega, h4⟩
theorem RowK.same {g k : Nat} {l : List PR} {w w' : World} (h : RowK g k l w) (e : w'.heap[g]? = w.heap[g]?) : RowK g k l w' := by
  obtain ⟨cs, h1, h2⟩ := h; exact ⟨cs, e.trans h1, h2⟩
theorem RowK.lt {g k : Nat} {l : List PR} {w : World} (h : RowK g k l w) : g < w.heap.size := h.row.lt
theorem RowK.below {g k : Nat} {l : List PR} {w w' : World} (h : RowK g k l w) (hb : Below w.heap.size w w') : RowK g k l w' := h.same (hb.block g h.lt)
theorem RowK.cells {g k : Nat} {l : List PR} {w : World} (h : RowK g k l w) {i : Nat} (hi : i < k) : ∃ x y z u, w.cell? ⟨g, i * 4, none⟩ = some x ∧ w.cell? ⟨g, i * 4 + 1, none⟩ = some y ∧ w.cell? ⟨g, i * 4 + 2, none⟩ = some z ∧ w.cell? ⟨g, i * 4 + 3, none⟩ = some u := by
  obtain ⟨cs, h1, h2, _⟩ := h
  refine ⟨cs[i * 4]'(by omega), cs[i * 4 + 1]'(by omega), cs[i * 4 + 2]'(by omega), cs[i * 4 + 3]'(by omega), ?_, ?_, ?_, ?_⟩ <;> (rw [Lib.cell_of_heap h1]; simp)
theorem RowK.push {g k : Nat} {l : List PR} {w : World} (h : RowK g k l w) (hk : l.length < k) (x : PR) : RowK g k (l ++ [x]) (set4 w g l.length x) := by
  obtain ⟨cs, h1, h2, h3, h4⟩ := h
  refine ⟨(((cs.setIfInBounds (l.length * 4) (.string x.n)).setIfInBounds (l.length * 4 + 1) (.int .i64 x.t.kind)).setIfInBounds (l.length * 4 + 2) (.string x.t.name)).setIfInBounds (l.length * 4 + 3) (.slice x.a x.t.kids.length x.c), blk_set (blk_set (blk_set (blk_set h1 _) _) _) _, by simpa using h2, by simp; omega, fun j hj => ?_⟩
  by_cases e : j = l.length
  · subst e
    have e2 : (l ++ [x]).getD l.length noP = x := by simp [List.getD]
    rw [e2]
    refine ⟨?_, ?_, ?_, ?_⟩ <;> (simp [Array.getElem?_setIfInBounds]; omega)
  · have hj' : j < l.length := by simp at hj; omega
    have e2 : (l ++ [x]).getD j noP = l.getD j noP := by simp [List.getD, List.getElem?_append_left hj']
    rw [e2]
    obtain ⟨a1, a2, a3, a4⟩ := h4 j hj'
    refine ⟨?_, ?_, ?_, ?_⟩
    · rw [Array.getElem?_setIfInBounds_ne (by omega), Array.getElem?_setIfInBounds_ne (by omega), Array.getElem?_setIfInBounds_ne (by omega), Array.getElem?_setIfInBounds_ne (by omega)]; exact a1
    · rw [Array.getElem?_setIfInBounds_ne (by omega), Array.getElem?_setIfInBounds_ne (by omega), Array.getElem?_setIfInBounds_ne (by omega), Array.getElem?_setIfInBounds_ne (by omega)]; exact a2
    · rw [Array.getElem?_setIfInBounds_ne (by omega), Array.getElem?_setIfInBounds_ne (by omega), Array.getElem?_setIfInBounds_ne (by omega), Array.getElem?_setIfInBounds_ne (by omega)]; exact a3
    · rw [Array.getElem?_setIfInBounds_ne (by omega), Array.getElem?_setIfInBounds_ne (by omega), Array.getElem?_setIfInBounds_ne (by omega), Array.getElem?_setIfInBounds_ne (by omega)]; exact a4
theorem RowK.start (g k : Nat) (w : World) (h : w.heap[g]? = some (.cells (zeros4 k) 60 (0, 0))) : RowK g k [] w :=
  ⟨_, h, by simp [zeros4, size_madeCells], Nat.zero_le _, fun _ hi => absurd hi (Nat.not_lt_zero _)⟩

theorem gather_all (g cap : Nat) (d : List PR) (w : World) (h : RowP g d w) (ht : Typ d w) (hf : FitsAll d) (hc : d.length ≤ cap) (hl : d.length < 20) :
    Calls Try.prog 20 #[.slice (some ⟨g, 0, none⟩) d.length cap] w fun e w' => (∃ l, e = .returned (.agg #[.slice (some ⟨g, 0, none⟩) l.length cap]) ∧ SubAt (.slice (some ⟨g, 0, none⟩) l.length cap) l w' ∧ Gath d l) ∧ Fr g w w' := by
  by_cases h0 : d = []
  · subst h0
    refine (gather_none _ _ w).mono ?_
    rintro e w' ⟨rfl, hb⟩
    exact ⟨⟨[], rfl, sub_nil _ _ _ (fun h => by cases h), gath_nil⟩, Fr.of_below hb⟩
  · refine (gather_some g cap d w h ht hf hc hl h0).mono ?_
    rintro e w' ⟨⟨l, ⟨rfl, hlc⟩, hr, hg⟩, hfr⟩
    exact ⟨⟨l, rfl, ⟨⟨.inr ⟨g, cap, rfl, hlc, hr⟩, hg.neat⟩, fun x hx => (ht x (hg.sub x hx)).keep (hfr.keepT h)⟩, hg⟩, hfr⟩

end Go.Proofs.Ytdcfemojkdoakaa
/- Numbers taken one by one; the types that are made of them. -/
namespace Go.Proofs.Ytdcfemojkdoakaa
open Go.RowKit
attribute [local go_sem] Oper.semAt_some
attribute [local go_sem ↓] Go.wp_at_zero Go.wp_at_succ

theorem block_set {W : World} {b o : Nat} {cs : Array Value} {T : TypeId} {m : Nat × Nat} (h : W.heap[b]? = some (.cells cs T m)) (v : Value) : (W.setCell ⟨b, o, none⟩ v).heap[b]? = some (.cells (cs.setIfInBounds o v) T m) := by
  obtain ⟨hlt, hk⟩ := Array.getElem?_eq_some_iff.1 h
  show (W.heap.modify b _)[b]? = _
  rw [Array.getElem?_eq_getElem (by rw [Array.size_modify]; exact hlt), Array.getElem_modify_self, hk]
  rfl
theorem ret_int {x y : Int} (h : x = y) : Ending.returned (.int .i64 x) = Ending.returned (.int .i64 y) := by rw [h]

theorem number_any (z : Int) (n : Nat) (w : World) (_ : -9223372036854775808 ≤ z) (_ : z ≤ 9223372036854775807) (hn0 : 0 < n) (hn : n ≤ 1000000) :
    Calls Try.prog 18 #[.int .i64 z, .int .i64 (n : Int)] w fun e w' => ∃ r : Nat, r < n ∧ e = .returned (.int .i64 (r : Int)) ∧ w = w' := by
  have k1 := Int.tmod_lt_of_pos z (show (0 : Int) < (n : Int) by omega)
  have k2 := Int.lt_tmod_of_pos z (show (0 : Int) < (n : Int) by omega)
  obtain ⟨q, hq⟩ : ∃ q, z.tmod (n : Int) = q := ⟨_, rfl⟩
  rw [hq] at k1 k2
  have hn1 : ((n : Int) == 0) = false := by simp; omega
  go_enter Try.func18, Try.ntmps18
  go_wp2
  · go_ret
    exact ⟨(q + n).toNat, by omega, ret_int (by omega), rfl⟩
  · go_ret
    exact ⟨q.toNat, by omega, ret_int (by omega), rfl⟩

/-- The ints of a row, in memory below B. -/
def IntsAt (B : Nat) (a : Option Addr) (n : Nat) (w : World) : Prop :=
  n = 0 ∨ ∃ g o, a = some ⟨g, o, none⟩ ∧ g < B ∧ ∀ i, i < n → ∃ z : Int, w.cell? ⟨g, o + i, none⟩ = some (.int .i64 z) ∧ -9223372036854775808 ≤ z ∧ z ≤ 9223372036854775807
/-- A Seq at block p, which has given k numbers. -/
def SeqAt (B p : Nat) (a : Option Addr) (n c k : Nat) (w : World) : Prop :=
  (B ≤ p ∧ w.heap[p]? = some (.cells #[.slice a n c, .int .i64 (k : Int)] 30 (0, 0))) ∧ IntsAt B a n w
/-- What a maker leaves as it was: all below B, and all but its Seq. -/
def MkFr (B p : Nat) (w w' : World) : Prop := Below B w w' ∧ ∀ k o, w.heap[k]? = some o → k ≠ p → w'.heap[k]? = some o
theorem MkFr.refl (B p : Nat) (w : World) : MkFr B p w w := ⟨Below.refl _ _, fun _ _ h _ => h⟩
theorem MkFr.trans {B p : Nat} {x y z : World} (h : MkFr B p x y) (k : MkFr B p y z) : MkFr B p x z := ⟨h.1.trans k.1, fun i o hi hp => k.2 i o (h.2 i o hi hp) hp⟩
theorem MkFr.of_below {B p : Nat} {w w' : World} (h : Below w.heap.size w w') (hB : B ≤ w.heap.size) : MkFr B p w w' := ⟨h.mono hB, fun k _ hk _ => (h.block k (Array.getElem?_eq_some_iff.1 hk).1).trans hk⟩
theorem IntsAt.keep {B : Nat} {a : Option Addr} {n : Nat} {w w' : World} (h : IntsAt B a n w) (hb : Below B w w') : IntsAt B a n w' := by
  rcases h with h | ⟨g, o, e, hg, hi⟩
  · exact .inl h
  · refine .inr ⟨g, o, e, hg, fun i h => ?_⟩
    obtain ⟨z, hz, r⟩ := hi i h
    exact ⟨z, (hb.cell (p := ⟨g, o + i, none⟩) hg).trans hz, r⟩
theorem SeqAt.below {B p : Nat} {a : Option Addr} {n c k : Nat} {w w' : World} (h : SeqAt B p a n c k w) (hb : Below w.heap.size w w') : SeqAt B p a n c k w' := by
  have hp := (Array.getElem?_eq_some_iff.1 h.1.2).1
  exact ⟨⟨h.1.1, (hb.block p hp).trans h.1.2⟩, h.2.keep (hb.mono (by have := h.1.1; omega))⟩
theorem SeqAt.lt {B p : Nat} {a : Option Addr} {n c k : Nat} {w : World} (h : SeqAt B p a n c k w) : p < w.heap.size := (Array.getElem?_eq_some_iff.1 h.1.2).1
theorem KeepT.of_mk {B p : Nat} {a : Option Addr} {n c k : Nat} {w w' : World} (h : MkFr B p w w') (hs : SeqAt B p a n c k w) : KeepT w w' := by
  intro i cs fz hi
  refine h.2 i _ hi fun e => ?_
  subst e
  have := hi.symm.trans hs.1.2
  simp at this

set_option maxHeartbeats 1000000 in
theorem next_any (B p : Nat) (a : Option Addr) (n c k m : Nat) (w : World) (h : SeqAt B p a n c k w) (hm0 : 0 < m) (hm : m ≤ 1000000) (hk : k < 1152921504606846976) (_ : n < 1152921504606846976) :
    Calls Try.prog 10 #[.pointer (some ⟨p, 0, none⟩), .int .i64 (m : Int)] w fun e w' => (∃ r : Nat, r < m ∧ e = .returned (.int .i64 (r : Int))) ∧ SeqAt B p a n c (k + 1) w' ∧ MkFr B p w w' := by
  obtain ⟨⟨hB, hp⟩, hi⟩ := h
  have c0 : w.cell? ⟨p, 0, none⟩ = some (.slice a n c) := by rw [Lib.cell_of_heap hp]; rfl
  have c1 : w.cell? ⟨p, 1, none⟩ = some (.int .i64 (k : Int)) := by rw [Lib.cell_of_heap hp]; rfl
  have f1 : w.frozen? ⟨p, 1, none⟩ = false := Lib.frozen_of_heap hp 1
  have HI := Lib.hid hi
  have HP := Lib.hid hp
  have HN := Lib.hid (fun z W h1 h2 => number_any z m W h1 h2 hm0 hm)
  clear hi hp
  have fin : ∀ W : World, Below B w W → (∀ i o, w.heap[i]? = some o → i ≠ p → W.heap[i]? = some o) → W.heap[p]? = some (.cells #[.slice a n c, .int .i64 ((k + 1 : Nat) : Int)] 30 (0, 0)) → SeqAt B p a n c (k + 1) W ∧ MkFr B p w W :=
    fun W hb ho h => ⟨⟨⟨hB, h⟩, HI.out.keep hb⟩, hb, ho⟩
  have HF := Lib.hid fin; clear fin
  by_cases hlt : k < n
  · have hlt' : ((k : Int) < (n : Int)) := by omega
    rcases HI.out with h0 | ⟨g, o, rfl, hg, hcell⟩
    · omega
    · obtain ⟨z, hz, hz1, hz2⟩ := hcell k hlt
      clear hcell
      go_enter Try.func10, Try.ntmps10
      go_wp2
      go_quiet (fail)
      go_wp2
      go_quiet (fail)
      go_wp2_with (go_at_call 18; refine (HN.out _ _ hz1 hz2).mono ?_)
      rintro e W2 ⟨r, hr, rfl, rfl⟩
      go_wp2
      go_ret
      refine ⟨⟨r, hr, rfl⟩, HF.out _ ?_ ?_ ?_⟩
      · exact (below_drewN (Below.refl _ _) _).setCell (p := ⟨p, 1, none⟩) hB _
      · intro i o' hi hip
        exact (Below.heap_setCell _ ⟨p, 1, none⟩ _ i hip).trans hi
      · exact (block_set (W := w.drewN _) (show (w.drewN _).heap[p]? = _ from HP.out) _)
  · have hlt' : ¬ ((k : Int) < (n : Int)) := by omega
    go_enter Try.func10, Try.ntmps10
    go_wp2
    go_quiet (fail)
    go_wp2_with (go_at_call 18; refine (HN.out 0 _ (by decide) (by decide)).mono ?_)
    rintro e W2 ⟨r, hr, rfl, rfl⟩
    go_wp2
    go_ret
    refine ⟨⟨r, hr, rfl⟩, HF.out _ ?_ ?_ ?_⟩
    · exact (below_drewN (Below.refl _ _) _).setCell (p := ⟨p, 1, none⟩) hB _
    · intro i o' hi hip
      exact (Below.heap_setCell _ ⟨p, 1, none⟩ _ i hip).trans hi
    · exact (block_set (W := w.drewN _) (show (w.drewN _).heap[p]? = _ from HP.out) _)
end Go.Proofs.Ytdcfemojkdoakaa
/- The types that are made of numbers: good ones, of a bounded text. -/
namespace Go.Proofs.Ytdcfemojkdoakaa
open Go.RowKit
attribute [local go_sem] Oper.semAt_some
attribute [local go_sem ↓] Go.wp_at_zero Go.wp_at_succ

theorem TyAt.elsewhere {w w' : World} {r : Nat} {b c : Value} {fz : Nat × Nat} (h0 : w.heap[r]? = some (.cells #[.int .i64 0, b, c] 26 fz)) (hk : ∀ k, k ≠ r → w'.heap[k]? = w.heap[k]?) {t : T} {k n v : Value} (h : TyAt w t k n v) : TyAt w' t k n v := by
  induction h with
  | leaf t a c h => exact .leaf t a c h
  | row t g cap cs fz x y z h1 h2 h3 h4 ih =>
    by_cases he : t.kids = []
    · rw [he]; exact .leaf t _ _ he
    · have h0t : 0 < t.kids.length := List.length_pos_iff.2 he
      have hg : g ≠ r := by
        rintro rfl
        rw [h0] at h1
        cases h1
        have e1 := (h3 0 h0t).1
        have e2 := (h4 0 h0t).shape.1
        have e3 : x 0 = .int .i64 0 := by simpa using e1.symm
        rw [e2] at e3
        have := (T.kind_pos t.kids[0]).1
        injection e3 with _ e4
        omega
      exact .row t g cap cs fz x y z ((hk g hg).trans h1) h2 h3 ih
theorem TysAt.elsewhere {w w' : World} {r : Nat} {b c : Value} {fz : Nat × Nat} (h0 : w.heap[r]? = some (.cells #[.int .i64 0, b, c] 26 fz)) (hk : ∀ k, k ≠ r → w'.heap[k]? = w.heap[k]?) {v : Value} {l : List T} (h : TysAt w v l) : TysAt w' v l := by
  rcases h with h | ⟨g, cap, cs, fz, x, y, z, rfl, h1, h2, h3, h4⟩
  · exact .inl h
  · by_cases he : l = []
    · subst he; exact .inl ⟨rfl, _, _, rfl⟩
    · have h0t : 0 < l.length := List.length_pos_iff.2 he
      have hg : g ≠ r := by
        rintro rfl
        rw [h0] at h1
        cases h1
        have e1 := (h3 0 h0t).1
        have e2 := (h4 0 h0t).shape.1
        have e3 : x 0 = .int .i64 0 := by simpa using e1.symm
        rw [e2] at e3
        have := (T.kind_pos l[0]).1
        injection e3 with _ e4
        omega
      exact .inr ⟨g, cap, cs, fz, x, y, z, rfl, (hk g hg).trans h1, h2, h3, fun i hi => (h4 i hi).elsewhere h0 hk⟩

theorem set3_cells {W : World} {r : Nat} {x0 y0 z0 : Value} {T : TypeId} (h : W.heap[r]? = some (.cells #[x0, y0, z0] T (0, 0))) (x y z : Value) :
    (((W.setCell ⟨r, 0, none⟩ x).setCell ⟨r, 1, none⟩ y).setCell ⟨r, 2, none⟩ z).cell? ⟨r, 0, none⟩ = some x ∧ (((W.setCell ⟨r, 0, none⟩ x).setCell ⟨r, 1, none⟩ y).setCell ⟨r, 2, none⟩ z).cell? ⟨r, 1, none⟩ = some y ∧
    (((W.setCell ⟨r, 0, none⟩ x).setCell ⟨r, 1, none⟩ y).setCell ⟨r, 2, none⟩ z).cell? ⟨r, 2, none⟩ = some z :=
  three_cells (block_set (o := 2) (block_set (o := 1) (block_set (o := 0) h x) y) z)
/-- What a maker of a type hands back. -/
def MadeT (B p : Nat) (a : Option Addr) (n c k m D : Nat) (w : World) (e : Ending) (w' : World) : Prop :=
  (∃ t u, e = .returned (tyV t u) ∧ (T.Good t ∧ Fits t ∧ (T.text t).length + 10 ≤ D) ∧ TysAt w' u t.kids) ∧ (∃ k', k' + 1 ≤ k + m ∧ SeqAt B p a n c k' w') ∧ MkFr B p w w'
/-- The end: the type is stored in the result's own block. -/
theorem made_fin {B p : Nat} {a : Option Addr} {n c k k' m D : Nat} {w W : World} {O : Obj} {t : T} {u x y z : Value} (hs : SeqAt B p a n c k' W) (hk : k' + 1 ≤ k + m) (hfr : MkFr B p (w.alloc O) W) (hp : p < w.heap.size)
    (h0 : W.heap[w.heap.size]? = some (.cells #[.int .i64 0, .string ⟨#[]⟩, .slice none 0 0] 26 (0, 0))) (ht : TysAt W u t.kids) (hg : T.Good t ∧ Fits t ∧ (T.text t).length + 10 ≤ D) :
    MadeT B p a n c k m D w (.returned (tyV t u)) (((W.setCell ⟨w.heap.size, 0, none⟩ x).setCell ⟨w.heap.size, 1, none⟩ y).setCell ⟨w.heap.size, 2, none⟩ z) := by
  have hk3 : ∀ i, i ≠ w.heap.size → (((W.setCell ⟨w.heap.size, 0, none⟩ x).setCell ⟨w.heap.size, 1, none⟩ y).setCell ⟨w.heap.size, 2, none⟩ z).heap[i]? = W.heap[i]? := fun i hi =>
    (Below.heap_setCell _ ⟨w.heap.size, 2, none⟩ _ i hi).trans ((Below.heap_setCell _ ⟨w.heap.size, 1, none⟩ _ i hi).trans (Below.heap_setCell _ ⟨w.heap.size, 0, none⟩ _ i hi))
  have hB := hs.1.1
  have hbel : Below B W (((W.setCell ⟨w.heap.size, 0, none⟩ x).setCell ⟨w.heap.size, 1, none⟩ y).setCell ⟨w.heap.size, 2, none⟩ z) :=
    (((Below.refl B W).setCell (p := ⟨w.heap.size, 0, none⟩) (by show B ≤ w.heap.size; omega) _).setCell (p := ⟨w.heap.size, 1, none⟩) (by show B ≤ w.heap.size; omega) _).setCell (p := ⟨w.heap.size, 2, none⟩) (by show B ≤ w.heap.size; omega) _
  refine ⟨⟨t, u, rfl, hg, ht.elsewhere h0 hk3⟩, ⟨k', hk, ⟨hB, (hk3 p (by omega)).trans hs.1.2⟩, hs.2.keep hbel⟩, ?_, ?_⟩
  · exact (((Below.refl B w).alloc (by omega) O).trans hfr.1).trans hbel
  · intro i o hi hip
    have hlt := (Array.getElem?_eq_some_iff.1 hi).1
    exact (hk3 i (by omega)).trans (hfr.2 i o ((Below.heap_alloc w O i hlt).trans hi) hip)

theorem good_var {n : ByteArray} {D : Nat} (h : n.data.toList ∈ T.vnames) (hs : n.size ≤ 4) (hD : 14 ≤ D) : T.Good (.var n) ∧ Fits (.var n) ∧ (T.text (.var n)).length + 10 ≤ D := by
  refine ⟨by rw [T.Good]; exact h, .mk _ (by simp [T.kids]) (by simp [T.kids]), ?_⟩
  rw [T.text, ← Lib.size_eq]; omega
theorem good_con0 {n : ByteArray} {D : Nat} (h : n.data.toList ∈ T.cnames) (hs : n.size ≤ 4) (hD : 14 ≤ D) : T.Good (.con n []) ∧ Fits (.con n []) ∧ (T.text (.con n [])).length + 10 ≤ D := by
  refine ⟨by rw [T.Good, T.Goods]; exact ⟨h, trivial⟩, .mk _ (by simp [T.kids]) (by simp [T.kids]), ?_⟩
  rw [T.text, T.texts, List.append_nil, ← Lib.size_eq]; omega
theorem br_len (b : Bool) (s : List UInt8) : (T.br b s).length ≤ s.length + 2 := by cases b <;> simp [T.br]
theorem arg_len (t : T) : (T.arg t).length ≤ (T.text t).length + 2 := br_len _ _
theorem good_con1 {n : ByteArray} {x : T} {D E : Nat} (h : n.data.toList ∈ T.cnames) (hs : n.size ≤ 4) (hx : T.Good x ∧ Fits x ∧ (T.text x).length + 10 ≤ D) (hE : 2 * D ≤ E) (_ : 14 ≤ D) : T.Good (.con n [x]) ∧ Fits (.con n [x]) ∧ (T.text (.con n [x])).length + 10 ≤ E := by
  refine ⟨by rw [T.Good, T.Goods, T.Goods]; exact ⟨h, hx.1, trivial⟩, .mk _ (by simp [T.kids]) (fun k hk => by simp [T.kids] at hk; subst hk; exact hx.2.1), ?_⟩
  have := arg_len x; have := hx.2.2
  rw [T.text, T.texts_cons, T.texts]
  simp only [List.length_append, List.length_cons, List.length_nil, ← Lib.size_eq]; omega
theorem good_con2 {n : ByteArray} {x y : T} {D E : Nat} (h : n.data.toList ∈ T.cnames) (hs : n.size ≤ 4) (hx : T.Good x ∧ Fits x ∧ (T.text x).length + 10 ≤ D) (hy : T.Good y ∧ Fits y ∧ (T.text y).length + 10 ≤ D) (hE : 2 * D ≤ E) : T.Good (.con n [x, y]) ∧ Fits (.con n [x, y]) ∧ (T.text (.con n [x, y])).length + 10 ≤ E := by
  refine ⟨by rw [T.Good, T.Goods, T.Goods, T.Goods]; exact ⟨h, hx.1, hy.1, trivial⟩, .mk _ (by simp [T.kids]) (fun k hk => by simp [T.kids] at hk; rcases hk with rfl | rfl; exact hx.2.1; exact hy.2.1), ?_⟩
  have := arg_len x; have := arg_len y; have := hx.2.2; have := hy.2.2
  rw [T.text, T.texts_cons, T.texts_cons, T.texts]
  simp only [List.length_append, List.length_cons, List.length_nil, ← Lib.size_eq]; omega
theorem good_fn {x y : T} {D E : Nat} (hx : T.Good x ∧ Fits x ∧ (T.text x).length + 10 ≤ D) (hy : T.Good y ∧ Fits y ∧ (T.text y).length + 10 ≤ D) (hE : 2 * D ≤ E) : T.Good (.fn x y) ∧ Fits (.fn x y) ∧ (T.text (.fn x y)).length + 10 ≤ E := by
  refine ⟨by rw [T.Good]; exact ⟨hx.1, hy.1⟩, .mk _ (by simp [T.kids]) (fun k hk => by simp [T.kids] at hk; rcases hk with rfl | rfl; exact hx.2.1; exact hy.2.1), ?_⟩
  have := br_len x.arrow x.text; have := hx.2.2; have := hy.2.2
  rw [T.text]
  simp only [List.length_append, List.length_cons, List.length_nil]; omega

set_option maxHeartbeats 4000000 in
theorem make_type0 (B p : Nat) (a : Option Addr) (n c k : Nat) (w : World) (h : SeqAt B p a n c k w) (hk : k < 1152921504606846976) (hn : n < 1152921504606846976) :
    Calls Try.prog 5 #[.pointer (some ⟨p, 0, none⟩), .int .i64 0] w (MadeT B p a n c k 2 14 w) := by
  have hp := h.lt
  have HN := Lib.hid (fun o => next_any B p a n c k 9 (w.alloc o) (h.below ((Below.refl _ w).alloc (Nat.le_refl _) o)) (by decide) (by decide) hk hn)
  have HNe := Lib.hid (show w.heap.size ≠ p by omega)
  clear h
  go_enter Try.func5, Try.ntmps5
  go_wp2_with (go_at_call 10; refine (HN.out _).mono ?_)
  rintro e W1 ⟨⟨r, hr, rfl⟩, h1, h2⟩
  have hz := h2.2 _ _ (alloc_new w _) HNe.out
  obtain ⟨c0, c1, c2⟩ := three_cells hz
  have f0 := Lib.frozen_of_heap hz 0
  have f1 := Lib.frozen_of_heap hz 1
  have f2 := Lib.frozen_of_heap hz 2
  have HZ := Lib.hid hz; have H1 := Lib.hid h1; have H2 := Lib.hid h2
  have hzl := (Array.getElem?_eq_some_iff.1 hz).1
  clear hz h1 h2
  obtain ⟨z, hz⟩ : ∃ z : Int, (r : Int) = z := ⟨_, rfl⟩
  rw [hz]
  have h9 : z = 0 ∨ z = 1 ∨ z = 2 ∨ z = 3 ∨ z = 4 ∨ z = 5 ∨ z = 6 ∨ z = 7 ∨ z = 8 := by omega
  clear hz hr
  rcases h9 with rfl | rfl | rfl | rfl | rfl | rfl | rfl | rfl | rfl
  · go_wp2_with (go_at_call 11; refine (var_any _ _).mono ?_)
    rintro e W2 ⟨⟨u, rfl, hu⟩, hb⟩
    have HBT := Lib.hid (((Below.refl _ W1).alloc (Nat.le_refl _) _).trans (hb.mono (by simp)))
    clear hb
    obtain ⟨a2, n2, rfl⟩ := hu.shape
    have hz2 : W2.heap[w.heap.size]? = some (.cells #[.int .i64 0, .string ⟨#[]⟩, .slice none 0 0] 26 (0, 0)) := (HBT.out.block _ hzl).trans HZ.out
    obtain ⟨d0, d1, d2⟩ := three_cells hz2
    have g0 := Lib.frozen_of_heap hz2 0
    have g1 := Lib.frozen_of_heap hz2 1
    have g2 := Lib.frozen_of_heap hz2 2
    have HZ2 := Lib.hid hz2; have HU := Lib.hid hu
    clear hz2 hu c0 c1 c2 f0 f1 f2
    simp only [tyV, T.kind, T.name, List.length_nil]
    go_wp2
    exact bodyPost_ret (v := .agg #[.int .i64 1, .string ⟨#[97]⟩, .slice a2 0 n2]) (by have hc := set3_cells HZ2.out (.int .i64 1) (.string ⟨#[97]⟩) (.slice a2 0 n2); simp [results, Try.results5, go_sem, hc.1, hc.2.1, hc.2.2]) rfl (made_fin (t := .var ⟨#[97]⟩) (H1.out.below HBT.out) (by omega) (H2.out.trans (MkFr.of_below HBT.out (Nat.le_trans H1.out.1.1 (Nat.le_of_lt H1.out.lt)))) hp HZ2.out HU.out (good_var (by decide) (by decide) (by decide)))
  · go_wp2_with (go_at_call 11; refine (var_any _ _).mono ?_)
    rintro e W2 ⟨⟨u, rfl, hu⟩, hb⟩
    have HBT := Lib.hid (((Below.refl _ W1).alloc (Nat.le_refl _) _).trans (hb.mono (by simp)))
    clear hb
    obtain ⟨a2, n2, rfl⟩ := hu.shape
    have hz2 : W2.heap[w.heap.size]? = some (.cells #[.int .i64 0, .string ⟨#[]⟩, .slice none 0 0] 26 (0, 0)) := (HBT.out.block _ hzl).trans HZ.out
    obtain ⟨d0, d1, d2⟩ := three_cells hz2
    have g0 := Lib.frozen_of_heap hz2 0
    have g1 := Lib.frozen_of_heap hz2 1
    have g2 := Lib.frozen_of_heap hz2 2
    have HZ2 := Lib.hid hz2; have HU := Lib.hid hu
    clear hz2 hu c0 c1 c2 f0 f1 f2
    simp only [tyV, T.kind, T.name, List.length_nil]
    go_wp2
    exact bodyPost_ret (v := .agg #[.int .i64 1, .string ⟨#[98]⟩, .slice a2 0 n2]) (by have hc := set3_cells HZ2.out (.int .i64 1) (.string ⟨#[98]⟩) (.slice a2 0 n2); simp [results, Try.results5, go_sem, hc.1, hc.2.1, hc.2.2]) rfl (made_fin (t := .var ⟨#[98]⟩) (H1.out.below HBT.out) (by omega) (H2.out.trans (MkFr.of_below HBT.out (Nat.le_trans H1.out.1.1 (Nat.le_of_lt H1.out.lt)))) hp HZ2.out HU.out (good_var (by decide) (by decide) (by decide)))
  · go_wp2_with (go_at_call 11; refine (var_any _ _).mono ?_)
    rintro e W2 ⟨⟨u, rfl, hu⟩, hb⟩
    have HBT := Lib.hid (((Below.refl _ W1).alloc (Nat.le_refl _) _).trans (hb.mono (by simp)))
    clear hb
    obtain ⟨a2, n2, rfl⟩ := hu.shape
    have hz2 : W2.heap[w.heap.size]? = some (.cells #[.int .i64 0, .string ⟨#[]⟩, .slice none 0 0] 26 (0, 0)) := (HBT.out.block _ hzl).trans HZ.out
    obtain ⟨d0, d1, d2⟩ := three_cells hz2
    have g0 := Lib.frozen_of_heap hz2 0
    have g1 := Lib.frozen_of_heap hz2 1
    have g2 := Lib.frozen_of_heap hz2 2
    have HZ2 := Lib.hid hz2; have HU := Lib.hid hu
    clear hz2 hu c0 c1 c2 f0 f1 f2
    simp only [tyV, T.kind, T.name, List.length_nil]
    go_wp2
    exact bodyPost_ret (v := .agg #[.int .i64 1, .string ⟨#[99]⟩, .slice a2 0 n2]) (by have hc := set3_cells HZ2.out (.int .i64 1) (.string ⟨#[99]⟩) (.slice a2 0 n2); simp [results, Try.results5, go_sem, hc.1, hc.2.1, hc.2.2]) rfl (made_fin (t := .var ⟨#[99]⟩) (H1.out.below HBT.out) (by omega) (H2.out.trans (MkFr.of_below HBT.out (Nat.le_trans H1.out.1.1 (Nat.le_of_lt H1.out.lt)))) hp HZ2.out HU.out (good_var (by decide) (by decide) (by decide)))
  · go_wp2_with (go_at_call 12; refine (con_any _ none [] 0 0 _ (TysAt.nil _ _ _)).mono ?_)
    rintro e W2 ⟨⟨u, rfl, hu⟩, hb⟩
    have HBT := Lib.hid hb
    clear hb
    obtain ⟨a2, n2, rfl⟩ := hu.shape
    have hz2 : W2.heap[w.heap.size]? = some (.cells #[.int .i64 0, .string ⟨#[]⟩, .slice none 0 0] 26 (0, 0)) := (HBT.out.block _ hzl).trans HZ.out
    obtain ⟨d0, d1, d2⟩ := three_cells hz2
    have g0 := Lib.frozen_of_heap hz2 0
    have g1 := Lib.frozen_of_heap hz2 1
    have g2 := Lib.frozen_of_heap hz2 2
    have HZ2 := Lib.hid hz2; have HU := Lib.hid hu
    clear hz2 hu c0 c1 c2 f0 f1 f2
    simp only [tyV, T.kind, T.name, List.length_nil]
    go_wp2
    exact bodyPost_ret (v := .agg #[.int .i64 2, .string ⟨#[73, 110, 116]⟩, .slice a2 0 n2]) (by have hc := set3_cells HZ2.out (.int .i64 2) (.string ⟨#[73, 110, 116]⟩) (.slice a2 0 n2); simp [results, Try.results5, go_sem, hc.1, hc.2.1, hc.2.2]) rfl (made_fin (t := .con ⟨#[73, 110, 116]⟩ []) (H1.out.below HBT.out) (by omega) (H2.out.trans (MkFr.of_below HBT.out (Nat.le_trans H1.out.1.1 (Nat.le_of_lt H1.out.lt)))) hp HZ2.out HU.out (good_con0 (by decide) (by decide) (by decide)))
  · go_wp2_with (go_at_call 12; refine (con_any _ none [] 0 0 _ (TysAt.nil _ _ _)).mono ?_)
    rintro e W2 ⟨⟨u, rfl, hu⟩, hb⟩
    have HBT := Lib.hid hb
    clear hb
    obtain ⟨a2, n2, rfl⟩ := hu.shape
    have hz2 : W2.heap[w.heap.size]? = some (.cells #[.int .i64 0, .string ⟨#[]⟩, .slice none 0 0] 26 (0, 0)) := (HBT.out.block _ hzl).trans HZ.out
    obtain ⟨d0, d1, d2⟩ := three_cells hz2
    have g0 := Lib.frozen_of_heap hz2 0
    have g1 := Lib.frozen_of_heap hz2 1
    have g2 := Lib.frozen_of_heap hz2 2
    have HZ2 := Lib.hid hz2; have HU := Lib.hid hu
    clear hz2 hu c0 c1 c2 f0 f1 f2
    simp only [tyV, T.kind, T.name, List.length_nil]
    go_wp2
    exact bodyPost_ret (v := .agg #[.int .i64 2, .string ⟨#[66, 111, 111, 108]⟩, .slice a2 0 n2]) (by have hc := set3_cells HZ2.out (.int .i64 2) (.string ⟨#[66, 111, 111, 108]⟩) (.slice a2 0 n2); simp [results, Try.results5, go_sem, hc.1, hc.2.1, hc.2.2]) rfl (made_fin (t := .con ⟨#[66, 111, 111, 108]⟩ []) (H1.out.below HBT.out) (by omega) (H2.out.trans (MkFr.of_below HBT.out (Nat.le_trans H1.out.1.1 (Nat.le_of_lt H1.out.lt)))) hp HZ2.out HU.out (good_con0 (by decide) (by decide) (by decide)))
  · go_wp2_with (go_at_call 11; refine (var_any _ _).mono ?_)
    rintro e W2 ⟨⟨u, rfl, hu⟩, hb⟩
    have HBT := Lib.hid (((Below.refl _ W1).alloc (Nat.le_refl _) _).trans (hb.mono (by simp)))
    clear hb
    obtain ⟨a2, n2, rfl⟩ := hu.shape
    have hz2 : W2.heap[w.heap.size]? = some (.cells #[.int .i64 0, .string ⟨#[]⟩, .slice none 0 0] 26 (0, 0)) := (HBT.out.block _ hzl).trans HZ.out
    obtain ⟨d0, d1, d2⟩ := three_cells hz2
    have g0 := Lib.frozen_of_heap hz2 0
    have g1 := Lib.frozen_of_heap hz2 1
    have g2 := Lib.frozen_of_heap hz2 2
    have HZ2 := Lib.hid hz2; have HU := Lib.hid hu
    clear hz2 hu c0 c1 c2 f0 f1 f2
    simp only [tyV, T.kind, T.name, List.length_nil]
    go_wp2
    exact bodyPost_ret (v := .agg #[.int .i64 1, .string ⟨#[97]⟩, .slice a2 0 n2]) (by have hc := set3_cells HZ2.out (.int .i64 1) (.string ⟨#[97]⟩) (.slice a2 0 n2); simp [results, Try.results5, go_sem, hc.1, hc.2.1, hc.2.2]) rfl (made_fin (t := .var ⟨#[97]⟩) (H1.out.below HBT.out) (by omega) (H2.out.trans (MkFr.of_below HBT.out (Nat.le_trans H1.out.1.1 (Nat.le_of_lt H1.out.lt)))) hp HZ2.out HU.out (good_var (by decide) (by decide) (by decide)))
  · go_wp2_with (go_at_call 11; refine (var_any _ _).mono ?_)
    rintro e W2 ⟨⟨u, rfl, hu⟩, hb⟩
    have HBT := Lib.hid (((Below.refl _ W1).alloc (Nat.le_refl _) _).trans (hb.mono (by simp)))
    clear hb
    obtain ⟨a2, n2, rfl⟩ := hu.shape
    have hz2 : W2.heap[w.heap.size]? = some (.cells #[.int .i64 0, .string ⟨#[]⟩, .slice none 0 0] 26 (0, 0)) := (HBT.out.block _ hzl).trans HZ.out
    obtain ⟨d0, d1, d2⟩ := three_cells hz2
    have g0 := Lib.frozen_of_heap hz2 0
    have g1 := Lib.frozen_of_heap hz2 1
    have g2 := Lib.frozen_of_heap hz2 2
    have HZ2 := Lib.hid hz2; have HU := Lib.hid hu
    clear hz2 hu c0 c1 c2 f0 f1 f2
    simp only [tyV, T.kind, T.name, List.length_nil]
    go_wp2
    exact bodyPost_ret (v := .agg #[.int .i64 1, .string ⟨#[98]⟩, .slice a2 0 n2]) (by have hc := set3_cells HZ2.out (.int .i64 1) (.string ⟨#[98]⟩) (.slice a2 0 n2); simp [results, Try.results5, go_sem, hc.1, hc.2.1, hc.2.2]) rfl (made_fin (t := .var ⟨#[98]⟩) (H1.out.below HBT.out) (by omega) (H2.out.trans (MkFr.of_below HBT.out (Nat.le_trans H1.out.1.1 (Nat.le_of_lt H1.out.lt)))) hp HZ2.out HU.out (good_var (by decide) (by decide) (by decide)))
  · go_wp2_with (go_at_call 11; refine (var_any _ _).mono ?_)
    rintro e W2 ⟨⟨u, rfl, hu⟩, hb⟩
    have HBT := Lib.hid (((Below.refl _ W1).alloc (Nat.le_refl _) _).trans (hb.mono (by simp)))
    clear hb
    obtain ⟨a2, n2, rfl⟩ := hu.shape
    have hz2 : W2.heap[w.heap.size]? = some (.cells #[.int .i64 0, .string ⟨#[]⟩, .slice none 0 0] 26 (0, 0)) := (HBT.out.block _ hzl).trans HZ.out
    obtain ⟨d0, d1, d2⟩ := three_cells hz2
    have g0 := Lib.frozen_of_heap hz2 0
    have g1 := Lib.frozen_of_heap hz2 1
    have g2 := Lib.frozen_of_heap hz2 2
    have HZ2 := Lib.hid hz2; have HU := Lib.hid hu
    clear hz2 hu c0 c1 c2 f0 f1 f2
    simp only [tyV, T.kind, T.name, List.length_nil]
    go_wp2
    exact bodyPost_ret (v := .agg #[.int .i64 1, .string ⟨#[99]⟩, .slice a2 0 n2]) (by have hc := set3_cells HZ2.out (.int .i64 1) (.string ⟨#[99]⟩) (.slice a2 0 n2); simp [results, Try.results5, go_sem, hc.1, hc.2.1, hc.2.2]) rfl (made_fin (t := .var ⟨#[99]⟩) (H1.out.below HBT.out) (by omega) (H2.out.trans (MkFr.of_below HBT.out (Nat.le_trans H1.out.1.1 (Nat.le_of_lt H1.out.lt)))) hp HZ2.out HU.out (good_var (by decide) (by decide) (by decide)))
  · go_wp2_with (go_at_call 12; refine (con_any _ none [] 0 0 _ (TysAt.nil _ _ _)).mono ?_)
    rintro e W2 ⟨⟨u, rfl, hu⟩, hb⟩
    have HBT := Lib.hid hb
    clear hb
    obtain ⟨a2, n2, rfl⟩ := hu.shape
    have hz2 : W2.heap[w.heap.size]? = some (.cells #[.int .i64 0, .string ⟨#[]⟩, .slice none 0 0] 26 (0, 0)) := (HBT.out.block _ hzl).trans HZ.out
    obtain ⟨d0, d1, d2⟩ := three_cells hz2
    have g0 := Lib.frozen_of_heap hz2 0
    have g1 := Lib.frozen_of_heap hz2 1
    have g2 := Lib.frozen_of_heap hz2 2
    have HZ2 := Lib.hid hz2; have HU := Lib.hid hu
    clear hz2 hu c0 c1 c2 f0 f1 f2
    simp only [tyV, T.kind, T.name, List.length_nil]
    go_wp2
    exact bodyPost_ret (v := .agg #[.int .i64 2, .string ⟨#[73, 110, 116]⟩, .slice a2 0 n2]) (by have hc := set3_cells HZ2.out (.int .i64 2) (.string ⟨#[73, 110, 116]⟩) (.slice a2 0 n2); simp [results, Try.results5, go_sem, hc.1, hc.2.1, hc.2.2]) rfl (made_fin (t := .con ⟨#[73, 110, 116]⟩ []) (H1.out.below HBT.out) (by omega) (H2.out.trans (MkFr.of_below HBT.out (Nat.le_trans H1.out.1.1 (Nat.le_of_lt H1.out.lt)))) hp HZ2.out HU.out (good_con0 (by decide) (by decide) (by decide)))

end Go.Proofs.Ytdcfemojkdoakaa
/- The types that are made of numbers: a level more. -/
namespace Go.Proofs.Ytdcfemojkdoakaa
open Go.RowKit
attribute [local go_sem] Oper.semAt_some
attribute [local go_sem ↓] Go.wp_at_zero Go.wp_at_succ

theorem SeqAt.drew {B p : Nat} {a : Option Addr} {n c k : Nat} {w : World} (h : SeqAt B p a n c k w) : SeqAt B p a n c k w.drew := h
theorem MkFr.of_drew {B p : Nat} {w w' : World} (h : MkFr B p w.drew w') : MkFr B p w w' := ⟨⟨h.1.os, h.1.tape, h.1.output, h.1.size, h.1.block⟩, h.2⟩

set_option maxHeartbeats 4000000 in
theorem make_step (d : Int) (hd1 : 1 ≤ d) (hd2 : d ≤ 100) (M D : Nat) (hM : 2 ≤ M) (hD : 14 ≤ D) (B p : Nat) (a : Option Addr) (n c k : Nat) (w : World) (h : SeqAt B p a n c k w) (hk : k + 2 * M < 1152921504606846976) (hn : n < 1152921504606846976)
    (IH : ∀ k w, SeqAt B p a n c k w → k + M < 1152921504606846976 → Calls Try.prog 5 #[.pointer (some ⟨p, 0, none⟩), .int .i64 (d - 1)] w (MadeT B p a n c k M D w)) :
    Calls Try.prog 5 #[.pointer (some ⟨p, 0, none⟩), .int .i64 d] w (MadeT B p a n c k (2 * M) (2 * D) w) := by
  have hp := h.lt
  have HN := Lib.hid (fun o => next_any B p a n c k 9 (w.alloc o) (h.below ((Below.refl _ w).alloc (Nat.le_refl _) o)) (by decide) (by decide) (by omega) hn)
  have HNe := Lib.hid (show w.heap.size ≠ p by omega)
  have hw : IntKind.i64.wrap (d - 1) = d - 1 := by rw [IntKind.wrap_i64]; omega
  have HI := Lib.hid IH
  have HI2 := Lib.hid IH
  rw [← hw] at HI2
  clear hw
  clear h IH
  go_enter Try.func5, Try.ntmps5
  go_wp2_with (go_at_call 10; refine (HN.out _).mono ?_)
  rintro e W1 ⟨⟨r, hr, rfl⟩, h1, h2⟩
  have hz := h2.2 _ _ (alloc_new w _) HNe.out
  obtain ⟨c0, c1, c2⟩ := three_cells hz
  have f0 := Lib.frozen_of_heap hz 0
  have f1 := Lib.frozen_of_heap hz 1
  have f2 := Lib.frozen_of_heap hz 2
  have HZ := Lib.hid hz; have H1 := Lib.hid h1; have H2 := Lib.hid h2
  have hzl := (Array.getElem?_eq_some_iff.1 hz).1
  clear hz h1 h2
  obtain ⟨z, hz⟩ : ∃ z : Int, (r : Int) = z := ⟨_, rfl⟩
  rw [hz]
  have h9 : z = 0 ∨ z = 1 ∨ z = 2 ∨ z = 3 ∨ z = 4 ∨ z = 5 ∨ z = 6 ∨ z = 7 ∨ z = 8 := by omega
  clear hz hr
  rcases h9 with rfl | rfl | rfl | rfl | rfl | rfl | rfl | rfl | rfl
  · go_wp2_with (go_at_call 11; refine (var_any _ _).mono ?_)
    rintro e W2 ⟨⟨u, rfl, hu⟩, hb⟩
    have HBT := Lib.hid (((Below.refl _ W1).alloc (Nat.le_refl _) _).trans (hb.mono (by simp)))
    clear hb
    obtain ⟨a2, n2, rfl⟩ := hu.shape
    have hz2 : W2.heap[w.heap.size]? = some (.cells #[.int .i64 0, .string ⟨#[]⟩, .slice none 0 0] 26 (0, 0)) := (HBT.out.block _ hzl).trans HZ.out
    obtain ⟨d0, d1, d2⟩ := three_cells hz2
    have g0 := Lib.frozen_of_heap hz2 0
    have g1 := Lib.frozen_of_heap hz2 1
    have g2 := Lib.frozen_of_heap hz2 2
    have HZ2 := Lib.hid hz2; have HU := Lib.hid hu
    clear hz2 hu c0 c1 c2 f0 f1 f2
    simp only [tyV, T.kind, T.name, List.length_nil]
    go_wp2
    exact bodyPost_ret (v := .agg #[.int .i64 1, .string ⟨#[97]⟩, .slice a2 0 n2]) (by have hc := set3_cells HZ2.out (.int .i64 1) (.string ⟨#[97]⟩) (.slice a2 0 n2); simp [results, Try.results5, go_sem, hc.1, hc.2.1, hc.2.2]) rfl (made_fin (t := .var ⟨#[97]⟩) (H1.out.below HBT.out) (by omega) (H2.out.trans (MkFr.of_below HBT.out (Nat.le_trans H1.out.1.1 (Nat.le_of_lt H1.out.lt)))) hp HZ2.out HU.out (good_var (by decide) (by decide) (by omega)))
  · go_wp2_with (go_at_call 11; refine (var_any _ _).mono ?_)
    rintro e W2 ⟨⟨u, rfl, hu⟩, hb⟩
    have HBT := Lib.hid (((Below.refl _ W1).alloc (Nat.le_refl _) _).trans (hb.mono (by simp)))
    clear hb
    obtain ⟨a2, n2, rfl⟩ := hu.shape
    have hz2 : W2.heap[w.heap.size]? = some (.cells #[.int .i64 0, .string ⟨#[]⟩, .slice none 0 0] 26 (0, 0)) := (HBT.out.block _ hzl).trans HZ.out
    obtain ⟨d0, d1, d2⟩ := three_cells hz2
    have g0 := Lib.frozen_of_heap hz2 0
    have g1 := Lib.frozen_of_heap hz2 1
    have g2 := Lib.frozen_of_heap hz2 2
    have HZ2 := Lib.hid hz2; have HU := Lib.hid hu
    clear hz2 hu c0 c1 c2 f0 f1 f2
    simp only [tyV, T.kind, T.name, List.length_nil]
    go_wp2
    exact bodyPost_ret (v := .agg #[.int .i64 1, .string ⟨#[98]⟩, .slice a2 0 n2]) (by have hc := set3_cells HZ2.out (.int .i64 1) (.string ⟨#[98]⟩) (.slice a2 0 n2); simp [results, Try.results5, go_sem, hc.1, hc.2.1, hc.2.2]) rfl (made_fin (t := .var ⟨#[98]⟩) (H1.out.below HBT.out) (by omega) (H2.out.trans (MkFr.of_below HBT.out (Nat.le_trans H1.out.1.1 (Nat.le_of_lt H1.out.lt)))) hp HZ2.out HU.out (good_var (by decide) (by decide) (by omega)))
  · go_wp2_with (go_at_call 11; refine (var_any _ _).mono ?_)
    rintro e W2 ⟨⟨u, rfl, hu⟩, hb⟩
    have HBT := Lib.hid (((Below.refl _ W1).alloc (Nat.le_refl _) _).trans (hb.mono (by simp)))
    clear hb
    obtain ⟨a2, n2, rfl⟩ := hu.shape
    have hz2 : W2.heap[w.heap.size]? = some (.cells #[.int .i64 0, .string ⟨#[]⟩, .slice none 0 0] 26 (0, 0)) := (HBT.out.block _ hzl).trans HZ.out
    obtain ⟨d0, d1, d2⟩ := three_cells hz2
    have g0 := Lib.frozen_of_heap hz2 0
    have g1 := Lib.frozen_of_heap hz2 1
    have g2 := Lib.frozen_of_heap hz2 2
    have HZ2 := Lib.hid hz2; have HU := Lib.hid hu
    clear hz2 hu c0 c1 c2 f0 f1 f2
    simp only [tyV, T.kind, T.name, List.length_nil]
    go_wp2
    exact bodyPost_ret (v := .agg #[.int .i64 1, .string ⟨#[99]⟩, .slice a2 0 n2]) (by have hc := set3_cells HZ2.out (.int .i64 1) (.string ⟨#[99]⟩) (.slice a2 0 n2); simp [results, Try.results5, go_sem, hc.1, hc.2.1, hc.2.2]) rfl (made_fin (t := .var ⟨#[99]⟩) (H1.out.below HBT.out) (by omega) (H2.out.trans (MkFr.of_below HBT.out (Nat.le_trans H1.out.1.1 (Nat.le_of_lt H1.out.lt)))) hp HZ2.out HU.out (good_var (by decide) (by decide) (by omega)))
  · go_wp2_with (go_at_call 12; refine (con_any _ none [] 0 0 _ (TysAt.nil _ _ _)).mono ?_)
    rintro e W2 ⟨⟨u, rfl, hu⟩, hb⟩
    have HBT := Lib.hid hb
    clear hb
    obtain ⟨a2, n2, rfl⟩ := hu.shape
    have hz2 : W2.heap[w.heap.size]? = some (.cells #[.int .i64 0, .string ⟨#[]⟩, .slice none 0 0] 26 (0, 0)) := (HBT.out.block _ hzl).trans HZ.out
    obtain ⟨d0, d1, d2⟩ := three_cells hz2
    have g0 := Lib.frozen_of_heap hz2 0
    have g1 := Lib.frozen_of_heap hz2 1
    have g2 := Lib.frozen_of_heap hz2 2
    have HZ2 := Lib.hid hz2; have HU := Lib.hid hu
    clear hz2 hu c0 c1 c2 f0 f1 f2
    simp only [tyV, T.kind, T.name, List.length_nil]
    go_wp2
    exact bodyPost_ret (v := .agg #[.int .i64 2, .string ⟨#[73, 110, 116]⟩, .slice a2 0 n2]) (by have hc := set3_cells HZ2.out (.int .i64 2) (.string ⟨#[73, 110, 116]⟩) (.slice a2 0 n2); simp [results, Try.results5, go_sem, hc.1, hc.2.1, hc.2.2]) rfl (made_fin (t := .con ⟨#[73, 110, 116]⟩ []) (H1.out.below HBT.out) (by omega) (H2.out.trans (MkFr.of_below HBT.out (Nat.le_trans H1.out.1.1 (Nat.le_of_lt H1.out.lt)))) hp HZ2.out HU.out (good_con0 (by decide) (by decide) (by omega)))
  · go_wp2_with (go_at_call 12; refine (con_any _ none [] 0 0 _ (TysAt.nil _ _ _)).mono ?_)
    rintro e W2 ⟨⟨u, rfl, hu⟩, hb⟩
    have HBT := Lib.hid hb
    clear hb
    obtain ⟨a2, n2, rfl⟩ := hu.shape
    have hz2 : W2.heap[w.heap.size]? = some (.cells #[.int .i64 0, .string ⟨#[]⟩, .slice none 0 0] 26 (0, 0)) := (HBT.out.block _ hzl).trans HZ.out
    obtain ⟨d0, d1, d2⟩ := three_cells hz2
    have g0 := Lib.frozen_of_heap hz2 0
    have g1 := Lib.frozen_of_heap hz2 1
    have g2 := Lib.frozen_of_heap hz2 2
    have HZ2 := Lib.hid hz2; have HU := Lib.hid hu
    clear hz2 hu c0 c1 c2 f0 f1 f2
    simp only [tyV, T.kind, T.name, List.length_nil]
    go_wp2
    exact bodyPost_ret (v := .agg #[.int .i64 2, .string ⟨#[66, 111, 111, 108]⟩, .slice a2 0 n2]) (by have hc := set3_cells HZ2.out (.int .i64 2) (.string ⟨#[66, 111, 111, 108]⟩) (.slice a2 0 n2); simp [results, Try.results5, go_sem, hc.1, hc.2.1, hc.2.2]) rfl (made_fin (t := .con ⟨#[66, 111, 111, 108]⟩ []) (H1.out.below HBT.out) (by omega) (H2.out.trans (MkFr.of_below HBT.out (Nat.le_trans H1.out.1.1 (Nat.le_of_lt H1.out.lt)))) hp HZ2.out HU.out (good_con0 (by decide) (by decide) (by omega)))
  · go_wp2_with (go_at_call 5; refine (HI.out _ _ H1.out (by omega)).mono ?_)
    rintro e W2 ⟨⟨t, u, rfl, hg, hu⟩, ⟨k2, hk2, hs2⟩, hf2⟩
    obtain ⟨a2, n2, rfl⟩ := hu.shape
    have hz2 := hf2.2 _ _ HZ.out HNe.out
    have hzl2 := (Array.getElem?_eq_some_iff.1 hz2).1
    have HZ2 := Lib.hid hz2; have HU := Lib.hid hu; have HS2 := Lib.hid hs2; have HF2 := Lib.hid hf2; have HG := Lib.hid hg
    clear hz2 hu hs2 hf2 hg c0 c1 c2 f0 f1 f2
    simp only [tyV]
    go_wp2_with (go_at_call 12; refine (con_any _ _ [t] 1 1 _ (TysAt.one rfl (TyAt.mk t HU.out))).mono ?_)
    rintro e W3 ⟨⟨u3, rfl, hu3⟩, hb⟩
    obtain ⟨a3, n3, rfl⟩ := hu3.shape
    have HBT := Lib.hid (((Below.refl _ W2).alloc (Nat.le_refl _) _).trans (hb.mono (by simp)))
    have hz3 : W3.heap[w.heap.size]? = some (.cells #[.int .i64 0, .string ⟨#[]⟩, .slice none 0 0] 26 (0, 0)) := (HBT.out.block _ hzl2).trans HZ2.out
    obtain ⟨d0, d1, d2⟩ := three_cells hz3
    have g0 := Lib.frozen_of_heap hz3 0
    have g1 := Lib.frozen_of_heap hz3 1
    have g2 := Lib.frozen_of_heap hz3 2
    have HZ3 := Lib.hid hz3; have HU3 := Lib.hid hu3
    clear hz3 hu3 hb
    simp only [tyV, show (T.con ⟨#[76, 105, 115, 116]⟩ [t]).kind = 2 from rfl, show (T.con ⟨#[76, 105, 115, 116]⟩ [t]).name = ⟨#[76, 105, 115, 116]⟩ from rfl, List.length_cons, List.length_nil]
    go_wp2
    exact bodyPost_ret (v := .agg #[.int .i64 2, .string ⟨#[76, 105, 115, 116]⟩, .slice a3 1 n3]) (by have hc := set3_cells HZ3.out (.int .i64 2) (.string ⟨#[76, 105, 115, 116]⟩) (.slice a3 1 n3); simp [results, Try.results5, go_sem, hc.1, hc.2.1, hc.2.2]) rfl (made_fin (t := .con ⟨#[76, 105, 115, 116]⟩ [t]) (HS2.out.below HBT.out) (by omega) ((H2.out.trans HF2.out).trans (MkFr.of_below HBT.out (Nat.le_trans HS2.out.1.1 (Nat.le_of_lt HS2.out.lt)))) hp HZ3.out HU3.out (good_con1 (by decide) (by decide) HG.out (Nat.le_refl _) hD))
  · go_wp2_with (go_at_call 5; refine (HI.out _ _ H1.out (by omega)).mono ?_)
    rintro e W2 ⟨⟨t, u, rfl, hg, hu⟩, ⟨k2, hk2, hs2⟩, hf2⟩
    obtain ⟨a2, n2, rfl⟩ := hu.shape
    have hz2 := hf2.2 _ _ HZ.out HNe.out
    have hzl2 := (Array.getElem?_eq_some_iff.1 hz2).1
    have HZ2 := Lib.hid hz2; have HU := Lib.hid hu; have HS2 := Lib.hid hs2; have HF2 := Lib.hid hf2; have HG := Lib.hid hg
    clear hz2 hu hs2 hf2 hg c0 c1 c2 f0 f1 f2
    simp only [tyV]
    go_wp2_with fail
    have hbx := alloc_new W2 (.cells #[.int .i64 t.kind, .string t.name, .slice a2 t.kids.length n2] 26)
    have HBX := Lib.hid hbx
    have hne2 : W2.heap.size ≠ p := by have := HS2.out.lt; omega
    have HNe2 := Lib.hid hne2
    clear hbx hne2
    go_region_with (first
      | (go_at_call 5; refine (HI2.out k2 _ ?hs ?hk).mono ?_; (case hs => exact SeqAt.drew (HS2.out.below ((Below.refl _ W2).alloc (Nat.le_refl _) _))); (case hk => omega); rintro e W3 ⟨⟨t3, u3, rfl, hg3, hu3⟩, ⟨k3, hk3, hs3⟩, hf3'⟩; have hf3 := MkFr.of_drew hf3'; clear hf3'; obtain ⟨a3, n3, rfl⟩ := hu3.shape; have hbx3 := hf3.2 _ _ HBX.out HNe2.out; obtain ⟨x0, x1, x2⟩ := three_cells hbx3; have hz3 := hf3.2 _ _ ((Below.heap_alloc W2 _ _ hzl2).trans HZ2.out) HNe.out; have hzl3 := (Array.getElem?_eq_some_iff.1 hz3).1; have HZ3 := Lib.hid hz3; have HS3 := Lib.hid hs3; have HF3 := Lib.hid hf3; have HU3 := Lib.hid hu3; have HG3 := Lib.hid hg3; have HUt := Lib.hid (HU.out.keep ((keepT_alloc W2 _).trans (KeepT.of_mk hf3 (HS2.out.below ((Below.refl _ W2).alloc (Nat.le_refl _) _))))); clear hz3 hs3 hf3 hu3 hg3 hbx3; simp only [tyV])
      | (go_at_call 12; refine (con_any _ _ [t, t3] 2 2 _ (TysAt.two rfl (TyAt.mk t HUt.out) (TyAt.mk t3 HU3.out))).mono ?_; rintro e W4 ⟨⟨u4, rfl, hu4⟩, hb4⟩; obtain ⟨a4, n4, rfl⟩ := hu4.shape; have HBT := Lib.hid (((Below.refl _ W3).alloc (Nat.le_refl _) _).trans (hb4.mono (by simp))); have hz4 : W4.heap[w.heap.size]? = some (.cells #[.int .i64 0, .string ⟨#[]⟩, .slice none 0 0] 26 (0, 0)) := (HBT.out.block _ hzl3).trans HZ3.out; obtain ⟨d0, d1, d2⟩ := three_cells hz4; have g0 := Lib.frozen_of_heap hz4 0; have g1 := Lib.frozen_of_heap hz4 1; have g2 := Lib.frozen_of_heap hz4 2; have HZ4 := Lib.hid hz4; have HU4 := Lib.hid hu4; clear hz4 hu4 hb4; simp only [tyV, show (T.con ⟨#[80, 97, 105, 114]⟩ [t, t3]).kind = 2 from rfl, show (T.con ⟨#[80, 97, 105, 114]⟩ [t, t3]).name = ⟨#[80, 97, 105, 114]⟩ from rfl, List.length_cons, List.length_nil]))
    all_goals go_wp2
    all_goals exact bodyPost_ret (v := .agg #[.int .i64 2, .string ⟨#[80, 97, 105, 114]⟩, .slice a4 2 n4]) (by have hc := set3_cells HZ4.out (.int .i64 2) (.string ⟨#[80, 97, 105, 114]⟩) (.slice a4 2 n4); simp [results, Try.results5, go_sem, hc.1, hc.2.1, hc.2.2]) rfl (made_fin (t := T.con ⟨#[80, 97, 105, 114]⟩ [t, t3]) (HS3.out.below HBT.out) (by omega) (((H2.out.trans HF2.out).trans ((MkFr.of_below ((Below.refl _ W2).alloc (Nat.le_refl _) _) (Nat.le_trans HS2.out.1.1 (Nat.le_of_lt HS2.out.lt))).trans HF3.out)).trans (MkFr.of_below HBT.out (Nat.le_trans HS3.out.1.1 (Nat.le_of_lt HS3.out.lt)))) hp HZ4.out HU4.out (good_con2 (by decide) (by decide) HG.out HG3.out (Nat.le_refl _)))
  · go_wp2_with (go_at_call 5; refine (HI.out _ _ H1.out (by omega)).mono ?_)
    rintro e W2 ⟨⟨t, u, rfl, hg, hu⟩, ⟨k2, hk2, hs2⟩, hf2⟩
    obtain ⟨a2, n2, rfl⟩ := hu.shape
    have hz2 := hf2.2 _ _ HZ.out HNe.out
    have hzl2 := (Array.getElem?_eq_some_iff.1 hz2).1
    have HZ2 := Lib.hid hz2; have HU := Lib.hid hu; have HS2 := Lib.hid hs2; have HF2 := Lib.hid hf2; have HG := Lib.hid hg
    clear hz2 hu hs2 hf2 hg c0 c1 c2 f0 f1 f2
    simp only [tyV]
    go_wp2_with fail
    have hbx := alloc_new W2 (.cells #[.int .i64 t.kind, .string t.name, .slice a2 t.kids.length n2] 26)
    have HBX := Lib.hid hbx
    have hne2 : W2.heap.size ≠ p := by have := HS2.out.lt; omega
    have HNe2 := Lib.hid hne2
    clear hbx hne2
    go_region_with (first
      | (go_at_call 5; refine (HI2.out k2 _ ?hs ?hk).mono ?_; (case hs => exact SeqAt.drew (HS2.out.below ((Below.refl _ W2).alloc (Nat.le_refl _) _))); (case hk => omega); rintro e W3 ⟨⟨t3, u3, rfl, hg3, hu3⟩, ⟨k3, hk3, hs3⟩, hf3'⟩; have hf3 := MkFr.of_drew hf3'; clear hf3'; obtain ⟨a3, n3, rfl⟩ := hu3.shape; have hbx3 := hf3.2 _ _ HBX.out HNe2.out; obtain ⟨x0, x1, x2⟩ := three_cells hbx3; have hz3 := hf3.2 _ _ ((Below.heap_alloc W2 _ _ hzl2).trans HZ2.out) HNe.out; have hzl3 := (Array.getElem?_eq_some_iff.1 hz3).1; have HZ3 := Lib.hid hz3; have HS3 := Lib.hid hs3; have HF3 := Lib.hid hf3; have HU3 := Lib.hid hu3; have HG3 := Lib.hid hg3; have HUt := Lib.hid (HU.out.keep ((keepT_alloc W2 _).trans (KeepT.of_mk hf3 (HS2.out.below ((Below.refl _ W2).alloc (Nat.le_refl _) _))))); clear hz3 hs3 hf3 hu3 hg3 hbx3; simp only [tyV])
      | (go_at_call 13; refine (fun2_any t t3 _ _ _ _ _ HUt.out HU3.out).mono ?_; rintro e W4 ⟨⟨u4, rfl, hu4⟩, hb4⟩; obtain ⟨a4, n4, rfl⟩ := hu4.shape; have HBT := Lib.hid hb4; have hz4 : W4.heap[w.heap.size]? = some (.cells #[.int .i64 0, .string ⟨#[]⟩, .slice none 0 0] 26 (0, 0)) := (HBT.out.block _ hzl3).trans HZ3.out; obtain ⟨d0, d1, d2⟩ := three_cells hz4; have g0 := Lib.frozen_of_heap hz4 0; have g1 := Lib.frozen_of_heap hz4 1; have g2 := Lib.frozen_of_heap hz4 2; have HZ4 := Lib.hid hz4; have HU4 := Lib.hid hu4; clear hz4 hu4 hb4; simp only [tyV, show (T.fn t t3).kind = 3 from rfl, show (T.fn t t3).name = ⟨#[]⟩ from rfl, List.length_cons, List.length_nil]))
    all_goals go_wp2
    all_goals exact bodyPost_ret (v := .agg #[.int .i64 3, .string ⟨#[]⟩, .slice a4 2 n4]) (by have hc := set3_cells HZ4.out (.int .i64 3) (.string ⟨#[]⟩) (.slice a4 2 n4); simp [results, Try.results5, go_sem, hc.1, hc.2.1, hc.2.2]) rfl (made_fin (t := T.fn t t3) (HS3.out.below HBT.out) (by omega) (((H2.out.trans HF2.out).trans ((MkFr.of_below ((Below.refl _ W2).alloc (Nat.le_refl _) _) (Nat.le_trans HS2.out.1.1 (Nat.le_of_lt HS2.out.lt))).trans HF3.out)).trans (MkFr.of_below HBT.out (Nat.le_trans HS3.out.1.1 (Nat.le_of_lt HS3.out.lt)))) hp HZ4.out HU4.out (good_fn HG.out HG3.out (Nat.le_refl _)))
  · go_wp2_with (go_at_call 5; refine (HI.out _ _ H1.out (by omega)).mono ?_)
    rintro e W2 ⟨⟨t, u, rfl, hg, hu⟩, ⟨k2, hk2, hs2⟩, hf2⟩
    obtain ⟨a2, n2, rfl⟩ := hu.shape
    have hz2 := hf2.2 _ _ HZ.out HNe.out
    have hzl2 := (Array.getElem?_eq_some_iff.1 hz2).1
    have HZ2 := Lib.hid hz2; have HU := Lib.hid hu; have HS2 := Lib.hid hs2; have HF2 := Lib.hid hf2; have HG := Lib.hid hg
    clear hz2 hu hs2 hf2 hg c0 c1 c2 f0 f1 f2
    simp only [tyV]
    go_wp2_with fail
    have hbx := alloc_new W2 (.cells #[.int .i64 t.kind, .string t.name, .slice a2 t.kids.length n2] 26)
    have HBX := Lib.hid hbx
    have hne2 : W2.heap.size ≠ p := by have := HS2.out.lt; omega
    have HNe2 := Lib.hid hne2
    clear hbx hne2
    go_region_with (first
      | (go_at_call 5; refine (HI2.out k2 _ ?hs ?hk).mono ?_; (case hs => exact SeqAt.drew (HS2.out.below ((Below.refl _ W2).alloc (Nat.le_refl _) _))); (case hk => omega); rintro e W3 ⟨⟨t3, u3, rfl, hg3, hu3⟩, ⟨k3, hk3, hs3⟩, hf3'⟩; have hf3 := MkFr.of_drew hf3'; clear hf3'; obtain ⟨a3, n3, rfl⟩ := hu3.shape; have hbx3 := hf3.2 _ _ HBX.out HNe2.out; obtain ⟨x0, x1, x2⟩ := three_cells hbx3; have hz3 := hf3.2 _ _ ((Below.heap_alloc W2 _ _ hzl2).trans HZ2.out) HNe.out; have hzl3 := (Array.getElem?_eq_some_iff.1 hz3).1; have HZ3 := Lib.hid hz3; have HS3 := Lib.hid hs3; have HF3 := Lib.hid hf3; have HU3 := Lib.hid hu3; have HG3 := Lib.hid hg3; have HUt := Lib.hid (HU.out.keep ((keepT_alloc W2 _).trans (KeepT.of_mk hf3 (HS2.out.below ((Below.refl _ W2).alloc (Nat.le_refl _) _))))); clear hz3 hs3 hf3 hu3 hg3 hbx3; simp only [tyV])
      | (go_at_call 13; refine (fun2_any t t3 _ _ _ _ _ HUt.out HU3.out).mono ?_; rintro e W4 ⟨⟨u4, rfl, hu4⟩, hb4⟩; obtain ⟨a4, n4, rfl⟩ := hu4.shape; have HBT := Lib.hid hb4; have hz4 : W4.heap[w.heap.size]? = some (.cells #[.int .i64 0, .string ⟨#[]⟩, .slice none 0 0] 26 (0, 0)) := (HBT.out.block _ hzl3).trans HZ3.out; obtain ⟨d0, d1, d2⟩ := three_cells hz4; have g0 := Lib.frozen_of_heap hz4 0; have g1 := Lib.frozen_of_heap hz4 1; have g2 := Lib.frozen_of_heap hz4 2; have HZ4 := Lib.hid hz4; have HU4 := Lib.hid hu4; clear hz4 hu4 hb4; simp only [tyV, show (T.fn t t3).kind = 3 from rfl, show (T.fn t t3).name = ⟨#[]⟩ from rfl, List.length_cons, List.length_nil]))
    all_goals go_wp2
    all_goals exact bodyPost_ret (v := .agg #[.int .i64 3, .string ⟨#[]⟩, .slice a4 2 n4]) (by have hc := set3_cells HZ4.out (.int .i64 3) (.string ⟨#[]⟩) (.slice a4 2 n4); simp [results, Try.results5, go_sem, hc.1, hc.2.1, hc.2.2]) rfl (made_fin (t := T.fn t t3) (HS3.out.below HBT.out) (by omega) (((H2.out.trans HF2.out).trans ((MkFr.of_below ((Below.refl _ W2).alloc (Nat.le_refl _) _) (Nat.le_trans HS2.out.1.1 (Nat.le_of_lt HS2.out.lt))).trans HF3.out)).trans (MkFr.of_below HBT.out (Nat.le_trans HS3.out.1.1 (Nat.le_of_lt HS3.out.lt)))) hp HZ4.out HU4.out (good_fn HG.out HG3.out (Nat.le_refl _)))
end Go.Proofs.Ytdcfemojkdoakaa
/- Types of depth three, of depth four, made of numbers. -/
namespace Go.Proofs.Ytdcfemojkdoakaa
open Go.RowKit

theorem make_type1 (B p : Nat) (a : Option Addr) (n c k : Nat) (w : World) (h : SeqAt B p a n c k w) (hk : k + 4 < 1152921504606846976) (hn : n < 1152921504606846976) :
    Calls Try.prog 5 #[.pointer (some ⟨p, 0, none⟩), .int .i64 1] w (MadeT B p a n c k 4 28 w) :=
  make_step 1 (by decide) (by decide) 2 14 (by decide) (by decide) B p a n c k w h hk hn (fun k w h hk => make_type0 B p a n c k w h (by omega) hn)
theorem make_type2 (B p : Nat) (a : Option Addr) (n c k : Nat) (w : World) (h : SeqAt B p a n c k w) (hk : k + 8 < 1152921504606846976) (hn : n < 1152921504606846976) :
    Calls Try.prog 5 #[.pointer (some ⟨p, 0, none⟩), .int .i64 2] w (MadeT B p a n c k 8 56 w) :=
  make_step 2 (by decide) (by decide) 4 28 (by decide) (by decide) B p a n c k w h hk hn (fun k w h hk => make_type1 B p a n c k w h hk hn)
theorem make_type3 (B p : Nat) (a : Option Addr) (n c k : Nat) (w : World) (h : SeqAt B p a n c k w) (hk : k + 16 < 1152921504606846976) (hn : n < 1152921504606846976) :
    Calls Try.prog 5 #[.pointer (some ⟨p, 0, none⟩), .int .i64 3] w (MadeT B p a n c k 16 112 w) :=
  make_step 3 (by decide) (by decide) 8 56 (by decide) (by decide) B p a n c k w h hk hn (fun k w h hk => make_type2 B p a n c k w h hk hn)
theorem make_type4 (B p : Nat) (a : Option Addr) (n c k : Nat) (w : World) (h : SeqAt B p a n c k w) (hk : k + 32 < 1152921504606846976) (hn : n < 1152921504606846976) :
    Calls Try.prog 5 #[.pointer (some ⟨p, 0, none⟩), .int .i64 4] w (MadeT B p a n c k 32 224 w) :=
  make_step 4 (by decide) (by decide) 16 112 (by decide) (by decide) B p a n c k w h hk hn (fun k w h hk => make_type3 B p a n c k w h hk hn)
end Go.Proofs.Ytdcfemojkdoakaa
/- The document's Size; how long a type's text is. -/
namespace Go.Proofs.Ytdcfemojkdoakaa
open Go.RowKit
attribute [local go_sem] Oper.semAt_some

theorem vname_pos {n : ByteArray} (h : n.data.toList ∈ T.vnames) : 1 ≤ n.data.toList.length ∧ n.size ≤ 4 := by
  rw [Lib.size_eq]
  simp [T.vnames] at h
  rcases h with h | h | h <;> rw [h] <;> decide
theorem cname_pos {n : ByteArray} (h : n.data.toList ∈ T.cnames) : 1 ≤ n.data.toList.length ∧ n.size ≤ 4 := by
  rw [Lib.size_eq]
  simp [T.cnames] at h
  rcases h with h | h | h | h <;> rw [h] <;> decide
theorem br_ge (b : Bool) (s : List UInt8) : s.length ≤ (T.br b s).length := by
  unfold T.br; split <;> simp <;> omega
mutual
theorem size_text (t : T) (h : T.Good t) : tsize t ≤ (T.text t).length := by
  cases t with
  | var n => rw [T.Good] at h; rw [tsize, T.text]; exact (vname_pos h).1
  | con n l =>
    rw [T.Good] at h
    rw [tsize, T.text, List.length_append]
    have := (cname_pos h.1).1
    have := sizes_text l h.2
    omega
  | fn a b =>
    rw [T.Good] at h
    rw [tsize, T.text]
    have := size_text a h.1; have := size_text b h.2; have := br_ge a.arrow a.text
    simp only [List.length_append, List.length_cons, List.length_nil]
    omega
  | all n a => rw [T.Good] at h; exact h.elim
theorem sizes_text (l : List T) (h : T.Goods l) : tsizes l ≤ (T.texts l).length := by
  cases l with
  | nil => simp [tsizes]
  | cons a l =>
    rw [T.Goods] at h
    rw [tsizes, T.texts_cons]
    have := size_text a h.1; have := sizes_text l h.2; have := br_ge a.wide a.text
    simp only [List.length_append, List.length_cons, List.length_nil, T.arg]
    omega
end
end Go.Proofs.Ytdcfemojkdoakaa
/- The chapter's example holds; rows that are written out. -/
namespace Go.Proofs.Ytdcfemojkdoakaa
open Go.RowKit Go.Sort Go.Lib
attribute [local go_sem] Oper.semAt_some

theorem rowP_one {w : World} {b : Nat} (x : PR) (h : w.heap[b]? = some (.cells #[.string x.n, .int .i64 x.t.kind, .string x.t.name, .slice x.a x.t.kids.length x.c] 60 (0, 0))) : RowP b [x] w := by
  refine ⟨_, h, by simp, fun i hi => ?_⟩
  obtain rfl : i = 0 := by simpa using hi
  exact ⟨rfl, rfl, rfl, rfl⟩
theorem rowP_two {w : World} {b : Nat} (x y : PR) (h : w.heap[b]? = some (.cells #[.string x.n, .int .i64 x.t.kind, .string x.t.name, .slice x.a x.t.kids.length x.c, .string y.n, .int .i64 y.t.kind, .string y.t.name, .slice y.a y.t.kids.length y.c] 60 (0, 0))) : RowP b [x, y] w := by
  refine ⟨_, h, by simp, fun i hi => ?_⟩
  match i, hi with
  | 0, _ => exact ⟨rfl, rfl, rfl, rfl⟩
  | 1, _ => exact ⟨rfl, rfl, rfl, rfl⟩
  | n + 2, hi => simp at hi; omega
theorem SubAt.shape {v : Value} {d : List PR} {w : World} (h : SubAt v d w) : ∃ a c, v = .slice a d.length c := by
  rcases h.1.1 with ⟨rfl, a, c, rfl, _⟩ | ⟨g, cap, rfl, _⟩
  · exact ⟨a, c, rfl⟩
  · exact ⟨_, _, rfl⟩
theorem made_ty {d l : List PR} (h : Made d l) : ∀ t, app l t = app d t := app_congr h.same
theorem fits_small {t : T} (h : tsize t ≤ 1000000000) : Fits t := by
  refine T.by_kids (P := fun t => tsize t ≤ 1000000000 → Fits t) (fun t H ht => ?_) t h
  obtain ⟨h1, h2⟩ := kids_small ht
  exact .mk t (by omega) (fun k hk => H k hk (h2 k hk))
theorem ty_cons (n : ByteArray) (x : PR) (l : List PR) : ty n (x :: l) = if x.n = n then x.t else ty n l := by
  unfold ty; rw [lk_cons]
  by_cases h : x.n = n
  · rw [if_pos h, if_pos h]; rfl
  · rw [if_neg h, if_neg h]
theorem ty_nil (n : ByteArray) : ty n [] = .var n := rfl
theorem leaf_at (t : T) (h : t.kids = []) (w : World) (a : Option Addr) (c : Nat) : TysAt w (.slice a t.kids.length c) t.kids := by rw [h]; exact TysAt.nil w a c

def tA : T := .var ⟨#[97]⟩
def tB : T := .var ⟨#[98]⟩
def tInt : T := .con ⟨#[73, 110, 116]⟩ []
def pInt : PR := ⟨⟨#[97]⟩, tInt, none, 0⟩
theorem app_int : app [pInt] tA = tInt := by rw [tA, app, ty_cons]; exact if_pos rfl
end Go.Proofs.Ytdcfemojkdoakaa
/- A region that draws its order, by an invariant: each operation is run once, at whatever state meets the facts on those that it waits for. -/
namespace Go.Proofs.Ytdcfemojkdoakaa

def upd (x : Nat → Value) (i : Nat) (v : Value) : Nat → Value := fun j => if j = i then v else x j
theorem upd_same (x : Nat → Value) (i : Nat) (v : Value) : upd x i v i = v := by simp [upd]
theorem upd_other (x : Nat → Value) {i j : Nat} (v : Value) (h : j ≠ i) : upd x i v j = x j := by simp [upd, h]

def AllAt (f : Nat → Oper → Prop) : Nat → List Oper → Prop
  | _, [] => True
  | n, o :: os => f n o ∧ AllAt f (n + 1) os

theorem AllAt.get {f : Nat → Oper → Prop} : ∀ {l : List Oper} {n : Nat}, AllAt f n l → ∀ {i : Nat} {o : Oper}, l[i]? = some o → f (n + i) o
  | [], _, _, i, o, h => by simp at h
  | a :: l, n, hl, 0, o, h => by simp at h; subst h; exact hl.1
  | a :: l, n, hl, i + 1, o, h => by
    have := AllAt.get hl.2 (i := i) (o := o) (by simpa using h)
    rw [show n + (i + 1) = n + 1 + i by omega]; exact this

/-- What is asked of operation 'o', number 'i'. -/
structure StepAt (P : Program) (fr : (Nat → Value) → Act) (S : World → Prop) (Rel : World → World → Prop) (Vals : Nat → Value → World → Prop)
    (ops : Array Oper) (Q : Exit → Act → World → Prop) (i : Nat) (o : Oper) : Prop where
  back : ∀ e ∈ o.after, Region.binds .any e = true → e.on < i
  put : ∀ x v, (fr x).put o.dst v = fr (upd x i v)
  run : ∀ (x : Nat → Value) (w : World), S w → (∀ e ∈ o.after, Region.binds .any e = true → Vals e.on (x e.on) w) →
    ∀ K : Act → World → Prop, (∀ v w', Rel w w' → Vals i v w' → K ((fr x).put o.dst v) w') →
      if Region.wanted o (yielded ops (fr x).tmps) = true then Oper.wp P o (fr x) w K Q else K ((fr x).put o.dst undef) w

section
variable {P : Program} {ops : Array Oper} {Q : Exit → Act → World → Prop} {fr : (Nat → Value) → Act} {S : World → Prop} {Rel : World → World → Prop} {Vals : Nat → Value → World → Prop}

theorem all_of_none (hback : ∀ i o, ops[i]? = some o → ∀ e ∈ o.after, Region.binds .any e = true → e.on < i) {listed : Array Bool} (hz : listed.size = ops.size)
    (h : Region.ready .any ops listed = []) : ∀ i, i < ops.size → listed.getD i false = true := by
  intro i
  induction i using Nat.strongRecOn with
  | ind i ih =>
    intro hi
    cases hl : listed.getD i false with
    | true => rfl
    | false =>
      have : i ∈ Region.ready .any ops listed := mem_ready.2 ⟨by
        have : i < listed.size := by omega
        simp [this] at hl ⊢; exact hl, ops[i], Array.getElem?_eq_getElem hi, fun e he hb => by
          have hlt := hback i ops[i] (Array.getElem?_eq_getElem hi) e he hb
          exact ih e.on hlt (by omega)⟩
      rw [h] at this; cases this

theorem inv_any (hput : ∀ i o, ops[i]? = some o → StepAt P fr S Rel Vals ops Q i o)
    (hrel : ∀ w w', S w → Rel w w' → S w') (hval : ∀ i v w w', S w → Vals i v w → Rel w w' → Vals i v w')
    (hfin : ∀ x w, S w → (∀ i, i < ops.size → Vals i (x i) w) → Q .normal (fr x) w) :
    ∀ (fuel : Nat) (listed : Array Bool) (x : Nat → Value) (w : World), listed.size = ops.size → ops.size ≤ fuel + listed.toList.count true → S w →
      (∀ i, listed.getD i false = true → Vals i (x i) w) → wpAny P .any ops Q fuel listed (fr x) w := by
  have hend : ∀ (listed : Array Bool) (x : Nat → Value) (w : World), listed.size = ops.size → S w → (∀ i, listed.getD i false = true → Vals i (x i) w) →
      Region.ready .any ops listed = [] → Q .normal (fr x) w := fun listed x w hz hS hV h =>
    hfin x w hS fun i hi => hV i (all_of_none (fun i o h => (hput i o h).back) hz h i hi)
  intro fuel
  induction fuel with
  | zero =>
    intro listed x w hz hc hS hV
    have hall : listed.toList.count true = listed.toList.length := by
      have := List.count_le_length (a := true) (l := listed.toList)
      simp at this hc ⊢; omega
    have hr : Region.ready .any ops listed = [] := by
      cases h : Region.ready .any ops listed with
      | nil => rfl
      | cons i l =>
        have hi : i ∈ Region.ready .any ops listed := by rw [h]; simp
        obtain ⟨h0, o, ho, _⟩ := mem_ready.1 hi
        have hlt : i < listed.size := by rw [hz]; exact (Array.getElem?_eq_some_iff.1 ho).1
        have := List.count_eq_length.1 hall listed[i] (by simp)
        simp [hlt] at h0
        rw [h0] at this; cases this
    exact ⟨hr, hend listed x w hz hS hV hr⟩
  | succ fuel ih =>
    intro listed x w hz hc hS hV
    refine ⟨hend listed x w hz hS hV, fun i hi => ?_⟩
    obtain ⟨h0, o, ho, hdep⟩ := mem_ready.1 hi
    have hlt : i < listed.size := by rw [hz]; exact (Array.getElem?_eq_some_iff.1 ho).1
    have h0' : listed[i] = false := by simpa [hlt] using h0
    have H := hput i o ho
    have hK : ∀ v w', Rel w w' → Vals i v w' → wpAny P .any ops Q fuel (listed.setIfInBounds i true) ((fr x).put o.dst v) w' := fun v w' hr hv => by
      rw [H.put]
      refine ih _ _ _ (by simpa using hz) ?_ (hrel w w' hS hr) fun j hj => ?_
      · have : (listed.setIfInBounds i true).toList.count true = listed.toList.count true + 1 := by
          rw [Array.toList_setIfInBounds, List.count_set (by simpa using hlt)]
          simp [h0']
        omega
      · by_cases hji : j = i
        · subst hji; rw [upd_same]; exact hv
        · rw [upd_other x v hji]
          exact hval _ _ _ _ hS (hV j (by rw [getD_set_ne false (Ne.symm hji)] at hj; exact hj)) hr
    have := H.run x w hS (fun e he hb => hV e.on (hdep e he hb)) _ hK
    unfold wpOp
    simp only [ho]
    split
    · rename_i hw; rw [if_pos hw] at this; exact .inl this
    · rename_i hw; rw [if_neg hw] at this; exact this

theorem region_inv (fr : (Nat → Value) → Act) (S : World → Prop) (Rel : World → World → Prop) (Vals : Nat → Value → World → Prop) (x0 : Nat → Value) {id : Nat} {a : Act} {w : World}
    (hm : P.follows .mixedOrders = true) (ha : a = fr x0) (hS : S w.drew)
    (hrel : ∀ w w', S w → Rel w w' → S w') (hval : ∀ i v w w', S w → Vals i v w → Rel w w' → Vals i v w')
    (hops : AllAt (StepAt P fr S Rel Vals ops Q) 0 ops.toList)
    (hfin : ∀ x w, S w → (∀ i, i < ops.size → Vals i (x i) w) → Q .normal (fr x) w) : (Code.region id ops true).wp P Q a w := by
  subst ha
  refine wp_region_any hm ?_
  exact inv_any (fun i o h => by have := hops.get (i := i) (o := o) (by simpa using h); rwa [Nat.zero_add] at this) hrel hval hfin _ _ _ _ (by simp) (by simp) hS
    (fun i hi => by
      by_cases h : i < ops.size
      · simp [h] at hi
      · simp [h] at hi)
end
end Go.Proofs.Ytdcfemojkdoakaa
/- SubstOthers: plain facts; what its last statement keeps. -/
namespace Go.Proofs.Ytdcfemojkdoakaa
open Go.RowKit Go.Sort Go.Lib
attribute [local go_sem] Oper.semAt_some

/-- Type t lies in block b. -/
def BoxT (b : Nat) (t : T) (a : Option Addr) (c : Nat) (w : World) : Prop :=
  w.heap[b]? = some (.cells #[.int .i64 t.kind, .string t.name, .slice a t.kids.length c] 26 (0, 0)) ∧ TysAt w (.slice a t.kids.length c) t.kids
theorem BoxT.below {b : Nat} {t : T} {a : Option Addr} {c : Nat} {w W : World} (h : BoxT b t a c w) (hb : Below w.heap.size w W) : BoxT b t a c W :=
  ⟨(hb.block b (Array.getElem?_eq_some_iff.1 h.1).1).trans h.1, h.2.keep (KeepT.of_below hb)⟩
theorem BoxT.alloc {b : Nat} {t : T} {a : Option Addr} {c : Nat} {w : World} (h : BoxT b t a c w) (o : Obj) : BoxT b t a c (w.alloc o) := h.below ((Below.refl _ w).alloc (Nat.le_refl _) o)
theorem BoxT.new {t : T} {a : Option Addr} {c : Nat} {w : World} (h : TysAt w (.slice a t.kids.length c) t.kids) : BoxT w.heap.size t a c (w.alloc (.cells #[.int .i64 t.kind, .string t.name, .slice a t.kids.length c] 26)) :=
  ⟨alloc_new w _, h.keep (keepT_alloc w _)⟩
theorem BoxT.cells {b : Nat} {t : T} {a : Option Addr} {c : Nat} {w : World} (h : BoxT b t a c w) : w.cell? ⟨b, 0, none⟩ = some (.int .i64 t.kind) ∧ w.cell? ⟨b, 1, none⟩ = some (.string t.name) ∧ w.cell? ⟨b, 2, none⟩ = some (.slice a t.kids.length c) := three_cells h.1
theorem BoxT.lt {b : Nat} {t : T} {a : Option Addr} {c : Nat} {w : World} (h : BoxT b t a c w) : b < w.heap.size := (Array.getElem?_eq_some_iff.1 h.1).1
/-- Types for variables lie in block b. -/
def BoxS (b : Nat) (v : Value) (d : List PR) (w : World) : Prop := w.heap[b]? = some (.cells #[v] 36 (0, 0)) ∧ SubAt v d w
theorem BoxS.below {b : Nat} {v : Value} {d : List PR} {w W : World} (h : BoxS b v d w) (hb : Below w.heap.size w W) : BoxS b v d W := ⟨(hb.block b (Array.getElem?_eq_some_iff.1 h.1).1).trans h.1, h.2.below hb⟩
theorem BoxS.alloc {b : Nat} {v : Value} {d : List PR} {w : World} (h : BoxS b v d w) (o : Obj) : BoxS b v d (w.alloc o) := h.below ((Below.refl _ w).alloc (Nat.le_refl _) o)
theorem BoxS.new {v : Value} {d : List PR} {w : World} (h : SubAt v d w) : BoxS w.heap.size v d (w.alloc (.cells #[v] 36)) := ⟨alloc_new w _, h.below ((Below.refl _ w).alloc (Nat.le_refl _) _)⟩
theorem BoxS.cell {b : Nat} {v : Value} {d : List PR} {w : World} (h : BoxS b v d w) : w.cell? ⟨b, 0, none⟩ = some v := by rw [Lib.cell_of_heap h.1]; rfl
theorem BoxS.lt {b : Nat} {v : Value} {d : List PR} {w : World} (h : BoxS b v d w) : b < w.heap.size := (Array.getElem?_eq_some_iff.1 h.1).1
theorem with_calls {P : Program} {f : Nat} {args : Array Value} {R : Ending → World → Prop} {w : World} (S : World → Prop) (h : S w) (k : ∀ W, S W → Calls P f args W R) : Calls P f args w R := k w h
theorem seq_new {w0 w : World} {a : Option Addr} {n c : Nat} (hb : Below w0.heap.size w0 w) (hl : IntsAt w0.heap.size a n w0) : SeqAt w0.heap.size w.heap.size a n c 0 (w.alloc (.cells #[.slice a n c, .int .i64 0] 30)) :=
  ⟨⟨hb.size, alloc_new w _⟩, hl.keep (hb.alloc hb.size _)⟩
theorem strs_two (w : World) (x y : ByteArray) : StrsP (.slice (some ⟨w.heap.size, 0, none⟩) 2 2) [x, y] (w.alloc (.cells #[.string x, .string y] 9)) :=
  .inr ⟨w.heap.size, 0, 2, rfl, by simp, fun i hi => by
    have h := alloc_new w (.cells #[.string x, .string y] 9)
    rw [Lib.cell_of_heap h]
    match i, hi with
    | 0, _ => rfl
    | 1, _ => rfl
    | n + 2, hi => simp at hi; omega⟩
theorem strs_three {w : World} {b : Nat} {x y z : ByteArray} (h : w.heap[b]? = some (.cells #[.string x, .string y, .string z] 9 (0, 0))) : StrsP (.slice (some ⟨b, 0, none⟩) 3 3) [x, y, z] w :=
  .inr ⟨b, 0, 3, rfl, (Array.getElem?_eq_some_iff.1 h).1, fun i hi => by
    rw [Lib.cell_of_heap h]
    match i, hi with
    | 0, _ => rfl
    | 1, _ => rfl
    | 2, _ => rfl
    | n + 3, hi => simp at hi; omega⟩

/-! Names for names. -/
/-- Of a made type: what is the same at a, b, c is the same. -/
theorem app_ext (d d' : List PR) (h : ∀ n : ByteArray, n.data.toList ∈ T.vnames → app d (.var n) = app d' (.var n)) : ∀ t, T.Good t → app d t = app d' t := by
  intro t
  refine T.by_kids (P := fun t => T.Good t → app d t = app d' t) (fun t H ht => ?_) t
  cases t with
  | var n => exact h n (by rwa [T.Good] at ht)
  | con n l =>
    rw [app, app, apps_map, apps_map]
    congr 1
    rw [T.Good] at ht
    exact List.map_congr_left fun k hk => H k hk (goods_mem ht.2 k hk)
  | fn a b =>
    rw [T.Good] at ht
    rw [app, app, H a (by simp [T.kids]) ht.1, H b (by simp [T.kids]) ht.2]
  | all n a => rw [T.Good] at ht; exact ht.elim
where
  goods_mem {l : List T} (h : T.Goods l) : ∀ k ∈ l, T.Good k := by
    induction l with
    | nil => intro k hk; cases hk
    | cons a l ih =>
      rw [T.Goods] at h
      intro k hk
      rcases List.mem_cons.1 hk with rfl | hk
      · exact h.1
      · exact ih h.2 k hk
theorem app_round (d d' : List PR) (h : ∀ n : ByteArray, n.data.toList ∈ T.vnames → app d (app d' (.var n)) = .var n) : ∀ t, T.Good t → app d (app d' t) = t := by
  intro t
  refine T.by_kids (P := fun t => T.Good t → app d (app d' t) = t) (fun t H ht => ?_) t
  cases t with
  | var n => exact h n (by rwa [T.Good] at ht)
  | con n l =>
    rw [app, app, apps_map, apps_map, List.map_map]
    congr 1
    rw [T.Good] at ht
    conv => rhs; rw [← List.map_id l]
    exact List.map_congr_left fun k hk => H k hk (app_ext.goods_mem ht.2 k hk)
  | fn a b =>
    rw [T.Good] at ht
    rw [app, app, H a (by simp [T.kids]) ht.1, H b (by simp [T.kids]) ht.2]
  | all n a => rw [T.Good] at ht; exact ht.elim
theorem app_same (d : List PR) (h : ∀ n : ByteArray, n.data.toList ∈ T.vnames → app d (.var n) = .var n) (t : T) (ht : T.Good t) : app d t = t := by
  have := app_round d [] (fun n hn => by rw [app_nil]; exact h n hn) t ht
  rwa [app_nil] at this
theorem size_app (d : List PR) (h : ∀ n : ByteArray, n.data.toList ∈ T.vnames → tsize (app d (.var n)) = 1) : ∀ t, T.Good t → tsize (app d t) = tsize t := by
  intro t
  refine T.by_kids (P := fun t => T.Good t → tsize (app d t) = tsize t) (fun t H ht => ?_) t
  cases t with
  | var n => rw [h n (by rwa [T.Good] at ht)]; rfl
  | con n l =>
    rw [T.Good] at ht
    rw [app, tsize, tsize, apps_map]
    have key : ∀ m : List T, (∀ k ∈ m, k ∈ l) → tsizes (m.map (app d)) = tsizes m := by
      intro m
      induction m with
      | nil => intro _; rfl
      | cons a m ih =>
        intro hm
        rw [List.map_cons, tsizes, tsizes, ih (fun k hk => hm k (List.mem_cons_of_mem _ hk)), H a (hm a (List.mem_cons_self ..)) (app_ext.goods_mem ht.2 a (hm a (List.mem_cons_self ..)))]
    rw [key l (fun k hk => hk)]
  | fn a b =>
    rw [T.Good] at ht
    rw [app, tsize, tsize, H a (by simp [T.kids]) ht.1, H b (by simp [T.kids]) ht.2]
  | all n a => rw [T.Good] at ht; exact ht.elim

def nA : ByteArray := ⟨#[97]⟩
def nB : ByteArray := ⟨#[98]⟩
def nC : ByteArray := ⟨#[99]⟩
def nX : ByteArray := ⟨#[120]⟩
def nZ : ByteArray := ⟨#[122, 122]⟩
theorem vn_cases {n : ByteArray} (h : n.data.toList ∈ T.vnames) : n = nA ∨ n = nB ∨ n = nC := by
  simp only [T.vnames, List.mem_cons, List.not_mem_nil, or_false] at h
  cases n with | mk d => cases d with | mk l =>
    simp only at h
    rcases h with rfl | rfl | rfl
    · exact .inl rfl
    · exact .inr (.inl rfl)
    · exact .inr (.inr rfl)
theorem app_v (n : ByteArray) (d : List PR) : app d (.var n) = ty n d := rfl
def dS : List PR := [⟨nA, .var nB, none, 0⟩, ⟨nB, .var nA, none, 0⟩]
def dU : List PR := [⟨nZ, .var nA, none, 0⟩]
def fromL : List ByteArray := [nA, nB, nC]
def toL : List ByteArray := [nC, nX, nB]
theorem tyc {n m : ByteArray} {t : T} {a : Option Addr} {c : Nat} {l : List PR} : ty n (⟨m, t, a, c⟩ :: l) = if m = n then t else ty n l := ty_cons n ⟨m, t, a, c⟩ l
theorem swap_twice (t : T) (h : T.Good t) : app dS (app dS t) = t := by
  refine app_round _ _ (fun n hn => ?_) t h
  rcases vn_cases hn with rfl | rfl | rfl
  · rw [app_v, dS, tyc, if_pos rfl, app_v, tyc, if_neg (by decide), tyc, if_pos rfl]
  · rw [app_v, dS, tyc, if_neg (by decide), tyc, if_pos rfl, app_v, tyc, if_pos rfl]
  · rw [app_v, dS, tyc, if_neg (by decide), tyc, if_neg (by decide), ty_nil, app_v, tyc, if_neg (by decide), tyc, if_neg (by decide), ty_nil]
theorem stays (t : T) (h : T.Good t) : app dU t = t := by
  refine app_same _ (fun n hn => ?_) t h
  rcases vn_cases hn with rfl | rfl | rfl <;> rw [app_v, dU, tyc, if_neg (by decide), ty_nil]
def dF : List PR := [⟨nA, .var nC, none, 0⟩, ⟨nB, .var nX, none, 0⟩, ⟨nC, .var nB, none, 0⟩]
def dT : List PR := [⟨nC, .var nA, none, 0⟩, ⟨nX, .var nB, none, 0⟩, ⟨nB, .var nC, none, 0⟩]
theorem prs_ft : prs fromL toL = dF := rfl
theorem prs_tf : prs toL fromL = dT := rfl
theorem there_back (t : T) (h : T.Good t) : app (prs toL fromL) (app (prs fromL toL) t) = t := by
  rw [prs_ft, prs_tf]
  refine app_round _ _ (fun n hn => ?_) t h
  rcases vn_cases hn with rfl | rfl | rfl
  · rw [app_v, dF, tyc, if_pos rfl, app_v, dT, tyc, if_pos rfl]
  · rw [app_v, dF, tyc, if_neg (by decide), tyc, if_pos rfl, app_v, dT, tyc, if_neg (by decide), tyc, if_pos rfl]
  · rw [app_v, dF, tyc, if_neg (by decide), tyc, if_neg (by decide), tyc, if_pos rfl, app_v, dT, tyc, if_neg (by decide), tyc, if_neg (by decide), tyc, if_pos rfl]
theorem swap_names (t : T) (h : T.Good t) : app (prs [nA, nB] [nB, nA]) t = app dS t := by
  refine app_ext _ _ (fun n _ => ?_) t h
  rfl
theorem swap_size (t : T) (h : T.Good t) : tsize (app dS t) = tsize t := by
  refine size_app _ (fun n hn => ?_) t h
  rcases vn_cases hn with rfl | rfl | rfl
  · rw [app_v, dS, tyc, if_pos rfl]; rfl
  · rw [app_v, dS, tyc, if_neg (by decide), tyc, if_pos rfl]; rfl
  · rw [app_v, dS, tyc, if_neg (by decide), tyc, if_neg (by decide), ty_nil]; rfl
theorem there_size (t : T) (h : T.Good t) : tsize (app (prs fromL toL) t) = tsize t := by
  rw [prs_ft]
  refine size_app _ (fun n hn => ?_) t h
  rcases vn_cases hn with rfl | rfl | rfl
  · rw [app_v, dF, tyc, if_pos rfl]; rfl
  · rw [app_v, dF, tyc, if_neg (by decide), tyc, if_pos rfl]; rfl
  · rw [app_v, dF, tyc, if_neg (by decide), tyc, if_neg (by decide), tyc, if_pos rfl]; rfl

theorem sized_made {d l : List PR} (h : Made d l) (hd : SizedAll d) : SizedAll l := fun x hx => by
  obtain ⟨y, hy, _, e⟩ := h.sub x hx
  rw [e]; exact hd y hy
/-- Calls whose results are told. -/
theorem apply_ret {d0 l : List PR} {t t' : T} (hm : Made d0 l) (hd : SizedAll d0) (hl : d0.length ≤ 1000) (ht : tsize t ≤ 1000000000) (e : app d0 t = t') {s : Value} {a : Option Addr} {c : Nat} {w : World} (hs : SubAt s l w) (h : TysAt w (.slice a t.kids.length c) t.kids) :
    Calls Try.prog 31 #[.agg #[s], .agg #[.int .i64 t.kind, .string t.name, .slice a t.kids.length c]] w fun e Y => (∃ za zc, e = .returned (.agg #[.int .i64 t'.kind, .string t'.name, .slice za t'.kids.length zc]) ∧ TysAt Y (.slice za t'.kids.length zc) t'.kids) ∧ Below w.heap.size w Y := by
  refine (apply_any (d := l) (t := t) (s := s) (w := w) (by have := hm.len; omega) (sized_made hm hd) ht hs h).mono ?_
  rintro e1 w5 ⟨⟨a, c, rfl, hin⟩, hb5⟩
  rw [made_ty hm, e] at hin ⊢
  exact ⟨⟨a, c, rfl, hin.tys⟩, hb5⟩
/-- What the last statement of SubstOthers keeps. -/
def SO (w : World) (b5 b8 b9 b12 : Nat) (t sw : T) (pa pw : Option Addr) (ca cw : Nat) (sv uv frv tov : Value) (ls lu : List PR) (X : World) : Prop :=
  (BoxT b5 t pa ca X ∧ BoxT b12 sw pw cw X) ∧ (BoxS b8 sv ls X ∧ BoxS b9 uv lu X) ∧ (StrsP frv fromL X ∧ StrsP tov toL X) ∧ Below w.heap.size w X
theorem SO.below {w : World} {b5 b8 b9 b12 : Nat} {t sw : T} {pa pw : Option Addr} {ca cw : Nat} {sv uv frv tov : Value} {ls lu : List PR} {X Y : World} (h : SO w b5 b8 b9 b12 t sw pa pw ca cw sv uv frv tov ls lu X) (hb : Below X.heap.size X Y) : SO w b5 b8 b9 b12 t sw pa pw ca cw sv uv frv tov ls lu Y :=
  ⟨⟨h.1.1.below hb, h.1.2.below hb⟩, ⟨h.2.1.1.below hb, h.2.1.2.below hb⟩, ⟨h.2.2.1.1.below hb, h.2.2.1.2.below hb⟩, h.2.2.2.trans (hb.mono h.2.2.2.size)⟩
theorem SO.cells {w : World} {b5 b8 b9 b12 : Nat} {t sw : T} {pa pw : Option Addr} {ca cw : Nat} {sv uv frv tov : Value} {ls lu : List PR} {X : World} (h : SO w b5 b8 b9 b12 t sw pa pw ca cw sv uv frv tov ls lu X) :
    (X.cell? ⟨b5, 0, none⟩ = some (.int .i64 t.kind) ∧ X.cell? ⟨b5, 1, none⟩ = some (.string t.name) ∧ X.cell? ⟨b5, 2, none⟩ = some (.slice pa t.kids.length ca)) ∧ (X.cell? ⟨b12, 0, none⟩ = some (.int .i64 sw.kind) ∧ X.cell? ⟨b12, 1, none⟩ = some (.string sw.name) ∧ X.cell? ⟨b12, 2, none⟩ = some (.slice pw sw.kids.length cw)) ∧
    X.cell? ⟨b8, 0, none⟩ = some sv ∧ X.cell? ⟨b9, 0, none⟩ = some uv := ⟨h.1.1.cells, h.1.2.cells, h.2.1.1.cell, h.2.1.2.cell⟩
end Go.Proofs.Ytdcfemojkdoakaa
/- SubstOthers: its last statement, a region of 42 operations that draws its order, by an invariant. (Made by a program.) -/
namespace Go.Proofs.Ytdcfemojkdoakaa
open Go.RowKit Go.Sort Go.Lib
attribute [local go_sem] Oper.semAt_some

def regionIn : Nat → Code → Array Oper
  | n, .region id ops _ => if id == n then ops else #[]
  | n, .seq a b => regionIn n a ++ regionIn n b
  | n, .cond _ a b => regionIn n a ++ regionIn n b
  | n, .block _ b => regionIn n b
  | n, .loop b => regionIn n b
  | n, .rangeFunc _ _ a b => regionIn n a ++ regionIn n b
  | n, .scope b => regionIn n b
  | _, _ => #[]
theorem depOf {o : Oper} {Vals : Nat → Value → World → Prop} {x : Nat → Value} {V : World} (h : ∀ e ∈ o.after, Region.binds .any e = true → Vals e.on (x e.on) V) (j : Nat)
    (hj : (o.after.any fun e => Region.binds .any e && e.on == j) = true) : Vals j (x j) V := by
  rw [Array.any_eq_true'] at hj
  obtain ⟨e, he, hj⟩ := hj
  simp only [Bool.and_eq_true, beq_iff_eq] at hj
  have := h e he hj.1
  rw [hj.2] at this; exact this
theorem kfit {K : Act → World → Prop} {a a' : Act} {w : World} (h : K a w) (e : a = a') : K a' w := e ▸ h
theorem run_bare {P : Program} {o : Oper} {ops : Array Oper} {a : Act} {w : World} {K : Act → World → Prop} {Q : Exit → Act → World → Prop} {C : Prop} (hg : o.guard = none) (h : Oper.wp P o a w K Q) :
    if Region.wanted o (yielded ops a.tmps) = true then Oper.wp P o a w K Q else C := by
  rw [if_pos (by simp [Region.wanted, hg])]; exact h
theorem run_guard {P : Program} {o : Oper} {ops : Array Oper} {a : Act} {w : World} {K : Act → World → Prop} {Q : Exit → Act → World → Prop} {C : Prop} (g k : Nat) (v : Value) (hg : o.guard = some (g, true))
    (hk : (ops[g]?).bind (·.dst) = some k) (hv : a.tmps[k]? = some v) (e : v = .bool true) (h : Oper.wp P o a w K Q) :
    if Region.wanted o (yielded ops a.tmps) = true then Oper.wp P o a w K Q else C := by
  rw [if_pos (by simp [Region.wanted, hg, yielded, hk, hv, e])]; exact h
theorem below_a (X : World) (o : Obj) : Below X.heap.size X (X.alloc o) := (Below.refl _ X).alloc (Nat.le_refl _) o
theorem below_d (X : World) : Below X.heap.size X X.drew := (Below.refl _ X).drew

def othFr (b : Nat → Value) (d : List Deferred) (x : Nat → Value) : Act := { tmps := #[b 0, b 1, x 41, b 3, b 4, b 5, b 6, b 7, b 8, b 9, b 10, b 11, b 12, b 13, b 14, b 15, b 16, b 17, b 18, b 19, b 20, b 21, b 22, b 23, b 24, b 25, b 26, b 27, b 28, b 29, b 30, b 31, b 32, b 33, b 34, b 35, b 36, b 37, b 38, b 39, b 40, b 41, x 0, x 1, x 2, x 3, x 4, x 5, x 6, x 7, x 8, x 9, x 10, x 11, x 12, x 13, x 14, x 15, x 16, x 17, x 18, x 19, x 20, x 21, x 22, x 23, x 24, x 25, x 26, x 27, x 28, x 29, x 30, x 31, x 32, x 33, x 34, x 35, x 36, x 37, x 38, x 39, x 40], defers := d }

def othVals (t sw r1 : T) (pa pw : Option Addr) (ca cw : Nat) (sv uv frv tov : Value) (ts : Nat) (i : Nat) (v : Value) (V : World) : Prop :=
  match i with
  | 0 => v = .bool true
  | 1 => v = .bool true
  | 2 => v = .agg #[sv]
  | 3 => v = .agg #[.int .i64 (sw).kind, .string (sw).name, .slice pw (sw).kids.length cw]
  | 4 => ∃ za zc, v = .agg #[.int .i64 (t).kind, .string (t).name, .slice za (t).kids.length zc] ∧ TysAt V (.slice za (t).kids.length zc) (t).kids
  | 5 => v = .agg #[.int .i64 (t).kind, .string (t).name, .slice pa (t).kids.length ca]
  | 6 => v = .bool true
  | 7 => v = .bool true
  | 8 => v = .bool true
  | 9 => v = .agg #[uv]
  | 10 => v = .agg #[.int .i64 (t).kind, .string (t).name, .slice pa (t).kids.length ca]
  | 11 => ∃ za zc, v = .agg #[.int .i64 (t).kind, .string (t).name, .slice za (t).kids.length zc] ∧ TysAt V (.slice za (t).kids.length zc) (t).kids
  | 12 => v = .agg #[.int .i64 (t).kind, .string (t).name, .slice pa (t).kids.length ca]
  | 13 => v = .bool true
  | 14 => v = .bool true
  | 15 => v = .bool true
  | 16 => v = .agg #[.int .i64 (t).kind, .string (t).name, .slice pa (t).kids.length ca]
  | 17 => v = frv
  | 18 => v = tov
  | 19 => ∃ za zc, v = .agg #[.int .i64 (r1).kind, .string (r1).name, .slice za (r1).kids.length zc] ∧ TysAt V (.slice za (r1).kids.length zc) (r1).kids
  | 20 => v = tov
  | 21 => v = frv
  | 22 => ∃ za zc, v = .agg #[.int .i64 (t).kind, .string (t).name, .slice za (t).kids.length zc] ∧ TysAt V (.slice za (t).kids.length zc) (t).kids
  | 23 => v = .agg #[.int .i64 (t).kind, .string (t).name, .slice pa (t).kids.length ca]
  | 24 => v = .bool true
  | 25 => v = .bool true
  | 26 => v = .bool true
  | 27 => v = .agg #[.int .i64 (t).kind, .string (t).name, .slice pa (t).kids.length ca]
  | 28 => ∃ zk, v = .slice (some ⟨zk, 0, none⟩) 2 2 ∧ StrsP (.slice (some ⟨zk, 0, none⟩) 2 2) [⟨#[97]⟩, ⟨#[98]⟩] V
  | 29 => ∃ zk, v = .slice (some ⟨zk, 0, none⟩) 2 2 ∧ StrsP (.slice (some ⟨zk, 0, none⟩) 2 2) [⟨#[98]⟩, ⟨#[97]⟩] V
  | 30 => ∃ za zc, v = .agg #[.int .i64 (sw).kind, .string (sw).name, .slice za (sw).kids.length zc] ∧ TysAt V (.slice za (sw).kids.length zc) (sw).kids
  | 31 => v = .agg #[.int .i64 (sw).kind, .string (sw).name, .slice pw (sw).kids.length cw]
  | 32 => v = .bool true
  | 33 => v = .bool true
  | 34 => v = .bool true
  | 35 => v = .agg #[.int .i64 (sw).kind, .string (sw).name, .slice pw (sw).kids.length cw]
  | 36 => v = .int .i64 (ts : Nat)
  | 37 => v = .agg #[.int .i64 (t).kind, .string (t).name, .slice pa (t).kids.length ca]
  | 38 => v = .int .i64 (ts : Nat)
  | 39 => v = .bool true
  | 40 => v = .bool true
  | 41 => v = .bool true
  | _ => True

theorem othVals_keep {t sw r1 : T} {pa pw : Option Addr} {ca cw : Nat} {sv uv frv tov : Value} {ts : Nat} (i : Nat) (v : Value) (V Y : World) (h : othVals t sw r1 pa pw ca cw sv uv frv tov ts i v V) (hb : Below V.heap.size V Y) : othVals t sw r1 pa pw ca cw sv uv frv tov ts i v Y := by
  unfold othVals at *
  split at h <;> first
    | exact h
    | (obtain ⟨za, zc, e, h⟩ := h; exact ⟨za, zc, e, h.keep (KeepT.of_below hb)⟩)
    | (obtain ⟨zk, e, h⟩ := h; exact ⟨zk, e, h.below hb⟩)

end Go.Proofs.Ytdcfemojkdoakaa
/- The law's pairs, made of numbers. -/
namespace Go.Proofs.Ytdcfemojkdoakaa
open Go.RowKit Go.Sort Go.Lib
attribute [local go_sem] Oper.semAt_some

theorem Try.infoRefPair : (Try.prog.info? 49).map (fun i => (i.zero, i.size, i.bytes)) = some (some (.agg zeroP), 4, 64) := by kernel_rfl
/-- The cells of a row of pairs. -/
def cellsP (d : List PR) : List Value := d.flatMap encP
theorem cellsP_snoc (d : List PR) (x : PR) : cellsP (d ++ [x]) = cellsP d ++ encP x := by simp [cellsP]
theorem cellsP_len : ∀ d : List PR, (cellsP d).length = d.length * 4
  | [] => rfl
  | x :: d => by
    have := cellsP_len d
    simp only [cellsP, List.flatMap_cons, List.length_append, encP_len, List.length_cons] at this ⊢
    omega
theorem cellsP_at (d : List PR) (i j : Nat) (hi : i < d.length) (hj : j < 4) : (cellsP d)[i * 4 + j]? = (encP (d.getD i noP))[j]? := by
  induction d generalizing i with
  | nil => cases hi
  | cons a r ih =>
    cases i with
    | zero =>
      have : (encP a ++ cellsP r)[j]? = (encP a)[j]? := List.getElem?_append_left (by rw [encP_len]; omega)
      simpa [cellsP] using this
    | succ i =>
      have e : (i + 1) * 4 + j = (encP a).length + (i * 4 + j) := by rw [encP_len]; omega
      have h1 : (encP a ++ cellsP r)[(encP a).length + (i * 4 + j)]? = (cellsP r)[i * 4 + j]? := by rw [List.getElem?_append_right (by omega)]; congr 1; omega
      have h2 := ih i (by simpa using hi)
      rw [e]
      simpa [cellsP, List.getD] using h1.trans h2
/-- As RowP, whatever the row's type is. -/
def RowG (T : TypeId) (g : Nat) (l : List PR) (w : World) : Prop :=
  ∃ cs, w.heap[g]? = some (.cells cs T (0, 0)) ∧ l.length * 4 ≤ cs.size ∧ ∀ i, i < l.length →
    cs[i * 4]? = some (.string (l.getD i noP).n) ∧ cs[i * 4 + 1]? = some (.int .i64 (l.getD i noP).t.kind) ∧ cs[i * 4 + 2]? = some (.string (l.getD i noP).t.name) ∧ cs[i * 4 + 3]? = some (.slice (l.getD i noP).a (l.getD i noP).t.kids.length (l.getD i noP).c)
theorem RowG.row {g : Nat} {l : List PR} {w : World} (h : RowG 60 g l w) : RowP g l w := h
/-- A list of pairs as the law makes it. -/
def GivenG (T : TypeId) (v : Value) (d : List PR) (w : World) : Prop := (d = [] ∧ v = .slice none 0 0) ∨ (d ≠ [] ∧ ∃ g cap, v = .slice (some ⟨g, 0, none⟩) d.length cap ∧ RowG T g d w)
theorem given_of_row {T : TypeId} {W : World} {base : Nat} {v : Value} {d : List PR} (h : W.ownsRow base T 4 v d.length (cellsP d)) (h0 : d = [] → v = .slice none 0 0) : GivenG T v d W := by
  by_cases hd : d = []
  · exact .inl ⟨hd, h0 hd⟩
  · rcases h.2 with ⟨rfl, hn0⟩ | ⟨g, cap, cur, rfl, _, hg, hc, hm, hcs, htk⟩
    · exact absurd (List.length_eq_zero_iff.1 hn0) hd
    · refine .inr ⟨hd, g, cap, rfl, cur, hg, by rw [hcs]; exact Nat.mul_le_mul_right 4 hc, fun i hi => ?_⟩
      have cell : ∀ j, j < 4 → cur[i * 4 + j]? = (encP (d.getD i noP))[j]? := fun j hj => by
        have hlt : i * 4 + j < d.length * 4 := by omega
        rw [← cellsP_at d i j hi hj, ← htk, List.getElem?_take, if_pos hlt, Array.getElem?_toList]
      exact ⟨(cell 0 (by omega)).trans rfl, (cell 1 (by omega)).trans rfl, (cell 2 (by omega)).trans rfl, (cell 3 (by omega)).trans rfl⟩
theorem own_keep {w w' : World} {p base : Nat} {e : TypeId} {size : Nat} {v : Value} {n : Nat} {xs : List Value} (h : w.ownsRow base e size v n xs) (hk : ∀ k o, w.heap[k]? = some o → k ≠ p → w'.heap[k]? = some o) (hp : p < base) : w'.ownsRow base e size v n xs := by
  refine ⟨h.1, ?_⟩
  rcases h.2 with h | ⟨g, cap, cur, rfl, hb, hg, r⟩
  · exact .inl h
  · exact .inr ⟨g, cap, cur, rfl, hb, hk g _ hg (by omega), r⟩
theorem KeepT.grown {W W' : World} {base : Nat} {e : TypeId} {size : Nat} {v : Value} {n : Nat} {xs : List Value} (hg : W.grownBy W' v.ownBlock) (h : W.ownsRow base e size v n xs) (he : e ≠ 26) : KeepT W W' := by
  intro k cs fz hk
  refine (hg.block k (Array.getElem?_eq_some_iff.1 hk).1 fun ee => ?_).trans hk
  rcases h.2 with ⟨rfl, _⟩ | ⟨g, cap, cur, rfl, _, hgb, _⟩
  · cases ee
  · obtain rfl : k = g := by simpa [Value.ownBlock] using ee
    rw [hk] at hgb
    cases hgb
    exact he rfl
theorem row_val {W : World} {base : Nat} {e : TypeId} {size : Nat} {v : Value} {n : Nat} {xs : List Value} (h : W.ownsRow base e size v n xs) : ∃ a c, v = .slice a n c := by
  rcases h.2 with ⟨rfl, rfl⟩ | ⟨g, cap, _, rfl, _⟩
  · exact ⟨_, _, rfl⟩
  · exact ⟨_, _, rfl⟩
theorem cell_new4 (w : World) (x y z u : Value) (t : TypeId) : ∀ j v, [x, y, z, u][j]? = some v → (w.alloc (.cells #[x, y, z, u] t)).cell? ((⟨w.heap.size, 0, none⟩ : Addr).add j) = some v := by
  intro j v hv
  have hadd : (⟨w.heap.size, 0, none⟩ : Addr).add j = ⟨w.heap.size, j, none⟩ := by unfold Addr.add; split <;> simp_all
  rw [hadd]
  have := alloc_new w (.cells #[x, y, z, u] t)
  simp only [World.cell?, this]
  match j, hv with
  | 0, hv => simpa using hv
  | 1, hv => simpa using hv
  | 2, hv => simpa using hv
  | 3, hv => simpa using hv
  | n + 4, hv => simp at hv

theorem rows_apart {W : World} {b1 b2 : Nat} {e1 e2 : TypeId} {s1 s2 n1 n2 : Nat} {v1 v2 : Value} {x1 x2 : List Value} (h1 : W.ownsRow b1 e1 s1 v1 n1 x1) (h2 : W.ownsRow b2 e2 s2 v2 n2 x2) (he : e1 ≠ e2) : v1.ownBlock = none ∨ v1.ownBlock ≠ v2.ownBlock := by
  rcases h1.2 with ⟨rfl, _⟩ | ⟨g, cap, cur, rfl, _, hg, _⟩
  · exact .inl rfl
  · refine .inr fun e => ?_
    rcases h2.2 with ⟨rfl, _⟩ | ⟨g', cap', cur', rfl, _, hg', _⟩
    · cases e
    · obtain rfl : g = g' := by simpa [Value.ownBlock] using e
      rw [hg] at hg'
      cases hg'
      exact he rfl
theorem cell_new4' (w : World) (o : Obj) (x y z u : Value) (t : TypeId) : ∀ j v, [x, y, z, u][j]? = some v → ((w.alloc o).alloc (.cells #[x, y, z, u] t)).cell? ((⟨w.heap.size + 1, 0, none⟩ : Addr).add j) = some v := by
  have := cell_new4 (w.alloc o) x y z u t
  simpa using this
/-- What the law's pairs hand back. -/
def MadeL (B p : Nat) (a : Option Addr) (n c k : Nat) (w : World) (e : Ending) (w' : World) : Prop :=
  (∃ d v u, e = .returned (.tuple #[v, u]) ∧ (d.length ≤ 4 ∧ ∀ x ∈ d, T.Good x.t ∧ Fits x.t ∧ (T.text x.t).length + 10 ≤ 56) ∧ (GivenG 60 v d w' ∧ GivenG 49 u d w') ∧ Typ d w') ∧ (∃ k', k' ≤ k + 40 ∧ SeqAt B p a n c k' w') ∧ MkFr B p w w'
theorem four_at {w : World} {b : Nat} {x y z u : ByteArray} {T : TypeId} {fz : Nat × Nat} (h : w.heap[b]? = some (.cells #[.string x, .string y, .string z, .string u] T fz)) (r : Nat) (hr : r < 4) : ∃ s : ByteArray, w.cell? ⟨b, r, none⟩ = some (.string s) := by
  rw [Lib.cell_of_heap h]
  match r, hr with
  | 0, _ => exact ⟨x, rfl⟩
  | 1, _ => exact ⟨y, rfl⟩
  | 2, _ => exact ⟨z, rfl⟩
  | 3, _ => exact ⟨u, rfl⟩
  | n + 4, hr => omega

end Go.Proofs.Ytdcfemojkdoakaa
