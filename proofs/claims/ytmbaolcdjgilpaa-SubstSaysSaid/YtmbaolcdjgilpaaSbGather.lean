/- subst.gather: a row of pairs is put in order, the first of each name, none that is its own type. -/
import Derived.Test.YtmbaolcdjgilpaaSbDelete
namespace Go.Proofs.Ytmbaolcdjgilpaa
open Go.RowKit Go.Sort Go.Lib
attribute [local go_sem] Oper.semAt_some

theorem gath (d d1 : List PR) (h1 : ∀ x, x ∈ d1 ↔ x ∈ d) (h2 : d1.length = d.length) (h3 : ∀ n, lk n d1 = lk n d) (h4 : d1.Pairwise (fun x y => ltP y x = false)) :
    Gath d ((keptUpTo (kpC d1.toArray) d1.toArray d1.length).filter fun x => !ownP x) := by
  obtain ⟨f1, f2, f3, _⟩ := comp_facts d1.toArray (by simpa using h4) d1.length (by simp)
  have e : d1.toArray.toList.take d1.length = d1 := by simp
  rw [e] at f2 f3
  obtain ⟨n1, n2⟩ := neat_filter f1
  refine ⟨n1, fun x hx => (h1 x).1 (f2 x (List.mem_filter.1 hx).1), ?_, fun n => ?_⟩
  · refine Nat.le_trans (List.length_filter_le _ _) ?_
    unfold keptUpTo
    rw [List.length_map, ← h2]
    exact Nat.le_trans (List.length_filter_le _ _) (by simp)
  · rw [n2 n]; unfold ty; rw [f3 n, h3 n]

set_option maxHeartbeats 2000000 in
theorem gather_some (g cap : Nat) (d : List PR) (w : World) (h : RowP g d w) (ht : Typ d w) (hf : FitsAll d) (hc : d.length ≤ cap) (hl : d.length < 20) (h0 : d ≠ []) :
    Calls Try.prog 29 #[.slice (some ⟨g, 0, none⟩) d.length cap] w fun e w' =>
      (∃ l, (e = .returned (.agg #[.slice (some ⟨g, 0, none⟩) l.length cap]) ∧ l.length ≤ cap) ∧ RowP g l w' ∧ Gath d l) ∧ Fr g w w' := by
  obtain ⟨s1, s2, s3, s4⟩ := sort_facts d.toArray
  have HS := Lib.hid (fun o => sortStable_any g cap d (w.alloc o) (h.below ((Below.refl _ w).alloc (Nat.le_refl _) o)) hl)
  have HRow := Lib.hid (fun o m os => (h.below ((Below.refl _ w).alloc (Nat.le_refl _) o)).sort m (insertionSort ltP d.toArray 0 d.toArray.size) os (by simpa using s2))
  have HFr := Lib.hid (fun o m os => (Fr.of_below (g := g) ((Below.refl _ w).alloc (Nat.le_refl _) o)).trans (Fr.sort (w.alloc o) g m (insertionSort ltP d.toArray 0 d.toArray.size) os))
  have hlt := h.lt
  obtain ⟨D, hD⟩ : ∃ D, insertionSort ltP d.toArray 0 d.toArray.size = D := ⟨_, rfl⟩
  rw [hD] at s1 s2 s3 s4 HS HRow HFr
  obtain ⟨d1, hd1⟩ : ∃ d1, D.toList = d1 := ⟨_, rfl⟩
  rw [hd1] at s1 s2 s3 s4 HRow
  have s2' : d1.length = d.length := by simpa using s2
  have hD1 : D = d1.toArray := by rw [← hd1]
  have HG := Lib.hid (gath d d1 (by simpa using s1) s2' (by simpa using s3) s4)
  have h01 : d1 ≠ [] := fun e => h0 (List.length_eq_zero_iff.1 (by rw [← s2', e]; rfl))
  have HT := Lib.hid ht
  have HM := Lib.hid (fun x (hx : x ∈ keptUpTo (kpC d1.toArray) d1.toArray d1.length) => (s1 x).1 (by
    have := (comp_facts d1.toArray (by simpa using s4) d1.length (by simp)).2.1 x hx
    exact List.mem_of_mem_take this))
  have HC := Lib.hid (fun W (hr : RowP g d1 W) => compact_any g cap d1 W hr (by omega) (by omega) h01)
  rw [s2'] at HC
  have hkl : (keptUpTo (kpC d1.toArray) d1.toArray d.length).length ≤ d.length := by
    unfold keptUpTo
    rw [List.length_map]
    exact Nat.le_trans (List.length_filter_le _ _) (by simp)
  rw [s2'] at HG HM
  obtain ⟨d2, hd2⟩ : ∃ d2, keptUpTo (kpC d1.toArray) d1.toArray d.length = d2 := ⟨_, rfl⟩
  rw [hd2] at HG HM HC hkl
  have HD := Lib.hid (fun W (hr : RowP g d2 W) (hk : KeepT w W) => delete_any g cap d2 W hr (fun x hx => ht.keep hk x (by simpa using HM.out x hx)) (fun x hx => hf x (by simpa using HM.out x hx)) (by omega) (by omega))
  have hfl : (d2.filter fun x => !ownP x).length ≤ d2.length := List.length_filter_le _ _
  obtain ⟨d3, hd3⟩ : ∃ d3, (d2.filter fun x => !ownP x) = d3 := ⟨_, rfl⟩
  rw [hd3] at HG HD hfl
  have HK := Lib.hid (fun W (f : Fr g w W) => f.keepT h)
  clear s1 s2 s3 s4 h ht hf hD hd1 hD1 h0 h01 hd2 hd3 HT HM
  go_enter Try.func29, Try.ntmps29
  go_wp2_with (go_at_call 39; refine (HS.out _).mono ?_)
  rintro e w1 ⟨rfl, m, os, hw1⟩
  have HR1 := Lib.hid (HRow.out (.cells #[.slice none 0 0] 39) m os)
  have HF1 := Lib.hid (HFr.out (.cells #[.slice none 0 0] 39) m os)
  have hb1 : w1.heap[w.heap.size]? = some (.cells #[.slice none 0 0] 39 (0, 0)) := by
    rw [hw1, heap_sortW _ _ _ _ _ _ (by simp) (by omega)]; exact alloc_new w _
  rw [← hw1] at HR1 HF1
  clear HRow HFr HS hw1
  have HB1 := Lib.hid hb1
  clear hb1
  go_wp2_with (go_at_call 42; refine (HC.out _ HR1.out).mono ?_)
  rintro e w2 ⟨rfl, hr2, hf2⟩
  have HB2 := Lib.hid ((hf2.2 _ (Array.getElem?_eq_some_iff.1 HB1.out).1 (by omega)).trans HB1.out)
  have HR2 := Lib.hid hr2
  have HF2 := Lib.hid (HF1.out.trans hf2)
  clear hr2 hf2
  go_wp2_with (go_at_call 44; refine (HD.out _ HR2.out (HK.out _ HF2.out)).mono ?_)
  rintro e w3 ⟨rfl, hr3, hf3⟩
  have hb3 := (hf3.2 _ (Array.getElem?_eq_some_iff.1 HB2.out).1 (by omega)).trans HB2.out
  have c3 : w3.cell? ⟨w.heap.size, 0, none⟩ = some (.slice none 0 0) := by rw [Lib.cell_of_heap hb3]; rfl
  have z3 := Lib.frozen_of_heap hb3 0
  have HB3 := Lib.hid hb3
  have HR3 := Lib.hid hr3
  have HF3 := Lib.hid (HF2.out.trans hf3)
  clear hr3 hf3 hb3
  go_wp2
  have hs := blk_set (o := 0) HB3.out (.slice (some ⟨g, 0, none⟩) d3.length cap)
  have hc0 : (w3.setCell ⟨w.heap.size, 0, none⟩ (.slice (some ⟨g, 0, none⟩) d3.length cap)).cell? ⟨w.heap.size, 0, none⟩ = some (.slice (some ⟨g, 0, none⟩) d3.length cap) := by rw [Lib.cell_of_heap hs]; rfl
  refine bodyPost_ret (v := .agg #[.slice (some ⟨g, 0, none⟩) d3.length cap]) (by simp [results, Try.results29, go_sem, hc0]) rfl ⟨⟨d3, ⟨rfl, by omega⟩, HR3.out.same (Below.heap_setCell _ ⟨w.heap.size, 0, none⟩ _ _ (by show g ≠ w.heap.size; omega)), HG.out⟩, HF3.out.1.trans ((Below.refl 0 w3).setCell (p := ⟨w.heap.size, 0, none⟩) (Nat.zero_le _) _), fun k hk hg => (Below.heap_setCell _ ⟨w.heap.size, 0, none⟩ _ _ (by show k ≠ w.heap.size; omega)).trans (HF3.out.2 k hk hg)⟩

/-! Of no pair. -/
theorem compact_none (a : Option Addr) (c : Nat) (w : World) :
    Calls Try.prog 42 #[.slice a 0 c, .func (.func 43) #[] #[]] w fun e w' => e = .returned (.slice a 0 c) ∧ w = w' := by
  go_enter Try.func42, Try.ntmps42
  go_wp2
  go_ret
  exact ⟨rfl, rfl⟩
theorem index_none (a : Option Addr) (c : Nat) (w : World) :
    Calls Try.prog 50 #[.slice a 0 c, .func (.func 45) #[] #[]] w fun e w' => e = .returned (.int .i64 (-1)) ∧ w = w' := by
  go_enter Try.func50, Try.ntmps50
  go_wp2
  refine wp_loop_rounds 1 ?_
  rw [rounds_succ]
  go_wp2
  go_ret
  exact ⟨rfl, rfl⟩
theorem delete_none (a : Option Addr) (c : Nat) (w : World) :
    Calls Try.prog 44 #[.slice a 0 c, .func (.func 45) #[] #[]] w fun e w' => e = .returned (.slice a 0 c) ∧ w = w' := by
  go_enter Try.func44, Try.ntmps44
  go_wp2_with (go_at_call 50; refine (index_none _ _ _).mono ?_)
  rintro e w1 ⟨rfl, rfl⟩
  go_wp2
  go_ret
  exact ⟨rfl, rfl⟩
set_option maxHeartbeats 1000000 in
theorem gather_none (a : Option Addr) (c : Nat) (w : World) :
    Calls Try.prog 29 #[.slice a 0 c] w fun e w' => e = .returned (.agg #[.slice a 0 c]) ∧ Below w.heap.size w w' := by
  go_enter Try.func29, Try.ntmps29
  go_wp2_with (first
    | (go_at_call 39; refine (sortNone _ _ _).mono ?_; rintro e w1 ⟨rfl, rfl⟩)
    | (go_at_call 42; refine (compact_none _ _ _).mono ?_; rintro e w1 ⟨rfl, rfl⟩)
    | (go_at_call 44; refine (delete_none _ _ _).mono ?_; rintro e w1 ⟨rfl, rfl⟩))
  refine bodyPost_ret (v := .agg #[.slice a 0 c]) (by simp [results, Try.results29, go_sem]) rfl ⟨rfl, (Below.refl _ w).alloc (Nat.le_refl _) _⟩

/-- A slice of pairs. -/
def SlP (v : Value) (d : List PR) (w : World) : Prop := (d = [] ∧ ∃ a c, v = .slice a 0 c ∧ (a = none → c = 0)) ∨ ∃ g cap, v = .slice (some ⟨g, 0, none⟩) d.length cap ∧ d.length ≤ cap ∧ RowP g d w
/-- Types for variables, as they lie in memory: the pairs by names. -/
def SubAt (v : Value) (d : List PR) (w : World) : Prop := (SlP v d w ∧ Neat d) ∧ Typ d w
theorem SubAt.below {v : Value} {d : List PR} {w w' : World} (h : SubAt v d w) (hb : Below w.heap.size w w') : SubAt v d w' := by
  obtain ⟨⟨h1, h2⟩, h3⟩ := h
  refine ⟨⟨?_, h2⟩, h3.keep (KeepT.of_below hb)⟩
  rcases h1 with h1 | ⟨g, cap, e, hc, hr⟩
  · exact .inl h1
  · exact .inr ⟨g, cap, e, hc, hr.below hb⟩
theorem gath_nil : Gath [] [] := ⟨⟨List.Pairwise.nil, fun x hx => by cases hx⟩, fun x hx => hx, Nat.le_refl _, fun _ => rfl⟩
end Go.Proofs.Ytmbaolcdjgilpaa
