/- Merged: UgAdd, UgPut, UfList, TyHas, UfGood. -/
import Derived.Test.YthpphjkoiipkkaaDoorUm6
import Derived.Test.YthpphjkoiipkkaaDoorUm5
import Derived.Test.YthpphjkoiipkkaaDoorUm2
import Derived.Test.YthpphjkoiipkkaaDoorUm11
import Derived.Test.YthpphjkoiipkkaaDoorUm8
/- The program's graph: parts are laid into it. -/
namespace Go.Proofs.YthpphjkoiipkkaaDoor
open Go.RowKit Go.Maps
attribute [local go_sem] Oper.semAt_some

theorem Tryd.infoPart : (Tryd.prog.info? 102).map (fun i => (i.zero, i.size, i.bytes)) = some (some (.agg #[.int .i64 0, .string ⟨#[]⟩, .slice none 0 0, .int .i64 0]), 4, 56) := by kernel_rfl
/-- One part more. -/
def Gr.snoc (G : Gr) (t : T) (l : List Nat) : Gr := ⟨G.N + 1, fun i => if i = G.N then t else G.tr i, fun i => if i = G.N then l else G.ag i⟩
def upto (rt : Nat → Nat) (n : Nat) : Nat → Nat := fun i => if i = n then n else rt i
theorem snoc_old (G : Gr) (t : T) (l : List Nat) {i : Nat} (h : i < G.N) : (G.snoc t l).tr i = G.tr i ∧ (G.snoc t l).ag i = G.ag i := by
  have : i ≠ G.N := by omega
  simp [Gr.snoc, this]
theorem snoc_new (G : Gr) (t : T) (l : List Nat) : (G.snoc t l).tr G.N = t ∧ (G.snoc t l).ag G.N = l := by simp [Gr.snoc]
theorem upto_old (rt : Nat → Nat) {n i : Nat} (h : i < n) : upto rt n i = rt i := by have : i ≠ n := by omega
                                                                                     simp [upto, this]
theorem upto_new (rt : Nat → Nat) (n : Nat) : upto rt n n = n := by simp [upto]
theorem snoc_cases {n i : Nat} (h : i < n + 1) : i < n ∨ i = n := by omega
theorem Gr.OK.snoc {G : Gr} (h : G.OK) {t : T} {l : List Nat} (hk : t.kids = l.map G.tr) (hl : ∀ x ∈ l, x < G.N) (hv : t.isV = true → ∀ i, i < G.N → G.tr i ≠ t) (h4 : t.kind ≠ 4) : (G.snoc t l).OK := by
  have hm : ∀ l : List Nat, (∀ x ∈ l, x < G.N) → l.map (G.snoc t l).tr = l.map G.tr := fun l hl => List.map_congr_left fun x hx => (snoc_old G t l (hl x hx)).1
  have hm2 : ∀ m : List Nat, (∀ x ∈ m, x < G.N) → m.map (G.snoc t l).tr = m.map G.tr := fun m hm => List.map_congr_left fun x hx => (snoc_old G t l (hm x hx)).1
  refine ⟨fun i hi => ?_, fun i hi x hx => ?_, fun i j hi hj vi e => ?_, fun i hi => ?_⟩
  · rcases snoc_cases hi with h1 | rfl
    · obtain ⟨e1, e2⟩ := snoc_old G t l h1
      rw [e1, e2, hm2 _ fun x hx => h.arg h1 hx]; exact h.kids i h1
    · obtain ⟨e1, e2⟩ := snoc_new G t l
      rw [e1, e2, hm2 _ hl]; exact hk
  · rcases snoc_cases hi with h1 | rfl
    · rw [(snoc_old G t l h1).2] at hx; exact h.low i h1 x hx
    · rw [(snoc_new G t l).2] at hx; exact hl x hx
  · rcases snoc_cases hi with h1 | rfl
    · rcases snoc_cases hj with h2 | rfl
      · rw [(snoc_old G t l h1).1] at vi e; rw [(snoc_old G t l h2).1] at e
        exact h.vars i j h1 h2 vi e
      · rw [(snoc_old G t l h1).1] at vi e; rw [(snoc_new G t l).1] at e
        exact (hv (e ▸ vi) i h1 e).elim
    · rcases snoc_cases hj with h2 | rfl
      · rw [(snoc_new G t l).1] at vi e; rw [(snoc_old G t l h2).1] at e
        exact (hv vi j h2 e.symm).elim
      · rfl
  · rcases snoc_cases hi with h1 | rfl
    · rw [(snoc_old G t l h1).1]; exact h.three i h1
    · rw [(snoc_new G t l).1]; exact h4
theorem map_upto {rt : Nat → Nat} {n : Nat} {l : List Nat} (h : ∀ x ∈ l, x < n) : l.map (upto rt n) = l.map rt := List.map_congr_left fun x hx => upto_old rt (h x hx)
theorem GI.snoc {G : Gr} {rt : Nat → Nat} (h : GI G rt) {t : T} {l : List Nat} (ho : (G.snoc t l).OK) : GI (G.snoc t l) (upto rt G.N) := by
  have key : ∀ i, i < G.N → upto rt G.N i < G.N ∧ upto rt G.N i = rt i := fun i hi => by rw [upto_old rt hi]; exact ⟨h.lt i hi, rfl⟩
  refine ⟨ho, fun i hi => ?_, fun i hi => ?_, fun i j hi hj e vi vj => ?_, fun i hi vi => ?_⟩
  · rcases snoc_cases hi with h1 | rfl
    · exact Nat.lt_succ_of_lt (key i h1).1
    · rw [upto_new]; exact Nat.lt_succ_self _
  · rcases snoc_cases hi with h1 | rfl
    · rw [(key i h1).2, upto_old rt (h.lt i h1), h.fix i h1]
    · rw [upto_new, upto_new]
  · rcases snoc_cases hi with h1 | rfl
    · rcases snoc_cases hj with h2 | rfl
      · rw [(key i h1).2, (key j h2).2] at e
        rw [(snoc_old G t l h1).1] at vi ⊢
        rw [(snoc_old G t l h2).1] at vj ⊢
        rw [(snoc_old G t l h1).2, (snoc_old G t l h2).2, map_upto fun x hx => h.ok.arg h1 hx, map_upto fun x hx => h.ok.arg h2 hx]
        exact h.con i j h1 h2 e vi vj
      · rw [upto_new, (key i h1).2] at e
        have := h.lt i h1; omega
    · rcases snoc_cases hj with h2 | rfl
      · rw [upto_new, (key j h2).2] at e
        have := h.lt j h2; omega
      · exact ⟨rfl, rfl, rfl⟩
  · rcases snoc_cases hi with h1 | rfl
    · rw [(key i h1).2, (snoc_old G t l (h.lt i h1)).1]
      rw [(snoc_old G t l h1).1] at vi
      exact h.nv i h1 vi
    · rw [upto_new]; exact vi
theorem SI.snoc {G : Gr} {rt : Nat → Nat} {σ : Sg} (g : GI G rt) (h : SI G σ rt) {t : T} {l : List Nat} (hv : t.isV = true → ∀ i, i < G.N → G.tr i ≠ t) : SI (G.snoc t l) σ (upto rt G.N) := by
  refine ⟨h.idem, fun i j hi hj e => ?_, fun i hi ri vi => ?_, fun x hx => h.out x fun i hi e => hx i (Nat.lt_succ_of_lt hi) (by rw [(snoc_old G t l hi).1]; exact e)⟩
  · rcases snoc_cases hi with h1 | rfl
    · rcases snoc_cases hj with h2 | rfl
      · rw [upto_old rt h1, upto_old rt h2] at e
        rw [(snoc_old G t l h1).1, (snoc_old G t l h2).1]
        exact h.eqv i j h1 h2 e
      · rw [upto_new, upto_old rt h1] at e
        have := g.lt i h1; omega
    · rcases snoc_cases hj with h2 | rfl
      · rw [upto_new, upto_old rt h2] at e
        have := g.lt j h2; omega
      · rfl
  · rcases snoc_cases hi with h1 | rfl
    · rw [upto_old rt h1] at ri
      rw [(snoc_old G t l h1).1] at vi ⊢
      exact h.free i h1 ri vi
    · rw [(snoc_new G t l).1] at vi ⊢
      have e := isV_var vi
      rw [e]
      exact h.out _ fun i hi e2 => hv vi i hi (e2.trans e.symm)
theorem Acyc.snoc {G : Gr} {rt : Nat → Nat} (g : GI G rt) {t : T} {l : List Nat} (h : Acyc (G.snoc t l) (upto rt G.N)) : Acyc G rt := by
  obtain ⟨m, hm⟩ := h
  refine ⟨m, fun i hi ri x hx => ?_⟩
  have := hm i (Nat.lt_succ_of_lt hi) (by rw [upto_old rt hi]; exact ri) x (by rw [(snoc_old G t l hi).2]; exact hx)
  rwa [upto_old rt (g.ok.arg hi hx)] at this
theorem Way.snoc {G : Gr} {rt nx h : Nat → Nat} (W : Way G rt nx h) (t : T) (l : List Nat) : Way (G.snoc t l) (upto rt G.N) (upto nx G.N) h := by
  refine ⟨fun i hi => ?_, fun i hi => ?_, fun i hi => ?_, fun i hi e => ?_⟩ <;> rcases snoc_cases hi with h1 | rfl
  · rw [upto_old nx h1]; exact Nat.lt_succ_of_lt (W.lt i h1)
  · rw [upto_new]; exact Nat.lt_succ_self _
  · rw [upto_old nx h1, upto_old rt h1]; exact W.fix i h1
  · rw [upto_new, upto_new]
  · rw [upto_old nx h1, upto_old rt (W.lt i h1), upto_old rt h1]; exact W.on i h1
  · rw [upto_new]
  · rw [upto_old nx h1] at e ⊢; exact W.down i h1 e
  · rw [upto_new] at e; exact (e rfl).elim
/-- All but the graph and its parts stays. -/
def KeepG (w w' : World) : Prop := ∀ (k : Nat) (o : Obj), w.heap[k]? = some o → (∀ cs fz, o ≠ .cells cs 80 fz) → (∀ cs fz, o ≠ .cells cs 102 fz) → w'.heap[k]? = some o
theorem KeepG.trans {a b c : World} (h : KeepG a b) (k : KeepG b c) : KeepG a c := fun i o hi h1 h2 => k i o (h i o hi h1 h2) h1 h2
theorem KeepG.of_below {w w' : World} (h : Below w.heap.size w w') : KeepG w w' := fun k _ hk _ _ => (h.block k (Array.getElem?_eq_some_iff.1 hk).1).trans hk
theorem KeepG.ints {w w' : World} (h : KeepG w w') {v : Value} {l : List Nat} (hv : PlcAt w v l) : PlcAt w' v l := hv.keep fun _ _ _ hk => h _ _ hk (by simp) (by simp)
theorem KeepG.tys {w w' : World} (h : KeepG w w') : KeepT w w' := fun _ _ _ hk => h _ _ hk (by simp) (by simp)
theorem KeepG.map {M m : Nat} {f : ByteArray → Option Nat} {w w' : World} (k : KeepG w w') (h : MapV M m f w) : MapV M m f w' := by
  obtain ⟨D, hD, ⟨es, clock, hm, r⟩, h2⟩ := h
  exact ⟨D, hD, ⟨es, clock, k _ _ hm (by simp) (by simp), r⟩, h2⟩
theorem encN_one {t : T} {v : Value} {x : Nat} (hv : v.oneCell' = true) : ∀ u ∈ encN t v x, u.oneCell' = true := by
  intro u hu
  simp only [encN, List.mem_cons, List.not_mem_nil, or_false] at hu
  rcases hu with rfl | rfl | rfl | rfl
  · rfl
  · rfl
  · exact hv
  · rfl
theorem cells_four {w : World} {p : Nat} {a b c d : Value} {T : TypeId} {fz : Nat × Nat} (h : w.heap[p]? = some (.cells #[a, b, c, d] T fz)) : w.cell? ⟨p, 0, none⟩ = some a ∧ w.cell? ⟨p, 1, none⟩ = some b ∧ w.cell? ⟨p, 2, none⟩ = some c ∧ w.cell? ⟨p, 3, none⟩ = some d := by
  refine ⟨?_, ?_, ?_, ?_⟩ <;> (rw [Lib.cell_of_heap h]; rfl)
theorem new_cellsL (w : World) (cs : Array Value) (T : TypeId) : ∀ j u, cs.toList[j]? = some u → (w.alloc (.cells cs T)).cell? ((⟨w.heap.size, 0, none⟩ : Addr).add j) = some u := by
  intro j u hu
  have hadd : (⟨w.heap.size, 0, none⟩ : Addr).add j = ⟨w.heap.size, j, none⟩ := by unfold Addr.add; split <;> simp_all
  rw [hadd]
  have := alloc_new w (.cells cs T)
  simp only [World.cell?, this]
  simpa using hu
/-- The graph with one part more, as it lies behind add. -/
def Added (B : Nat) (G : Gr) (t : T) (v : Value) (E c g mb : Nat) (sl : Nat → Value) (nx : Nat → Nat) (w w' : World) : Prop :=
  (∃ pv, w'.heap[g]? = some (.cells #[pv, .map (some mb), .int .i64 (E : Int), .int .i64 (c : Int)] 80 (0, 0)) ∧ w'.ownsRow B 102 4 pv (G.N + 1) (rowN G.tr sl nx G.N ++ encN t v G.N)) ∧ KeepG w w' ∧ Below B w w'
theorem added_of {B : Nat} {G : Gr} {E c g mb : Nat} {pv pv' v : Value} {sl : Nat → Value} {nx : Nat → Nat} {t : T} {w V w1 : World} (ht : w.heap[g]? = some (.cells #[pv, .map (some mb), .int .i64 (E : Int), .int .i64 (c : Int)] 80 (0, 0))) (hg : B ≤ g) (hB : B ≤ w.heap.size) (hr : w.ownsRow B 102 4 pv G.N (rowN G.tr sl nx G.N)) (hV : Below w.heap.size w V)
    (ho : w1.ownsRow B 102 4 pv' (G.N + 1) (rowN G.tr sl nx G.N ++ encN t v G.N)) (hgr : V.grownBy w1 pv.ownBlock) : w1.heap[g]? = some (.cells #[pv, .map (some mb), .int .i64 (E : Int), .int .i64 (c : Int)] 80 (0, 0)) ∧ Added B G t v E c g mb sl nx w (w1.setCell ⟨g, 0, none⟩ pv') := by
  have hkV : ∀ (k : Nat) (o : Obj), w.heap[k]? = some o → V.heap[k]? = some o := fun k o hk => (hV.block k (Array.getElem?_eq_some_iff.1 hk).1).trans hk
  have hrV := row_kept hr fun k _ _ hk => hkV k _ hk
  have hg1 := row_other hrV hgr (hkV g _ ht) (by decide)
  have hoth : ∀ k, k ≠ g → (w1.setCell ⟨g, 0, none⟩ pv').heap[k]? = w1.heap[k]? := fun k hk => Below.heap_setCell _ ⟨g, 0, none⟩ _ k hk
  refine ⟨hg1, ⟨pv', ?_, row_kept ho fun k cs fz hk => (hoth k (by rintro rfl; rw [hg1] at hk; cases hk)).trans hk⟩, fun k o hk h1 h2 => ?_, ?_⟩
  · rw [blk_set hg1]; rfl
  · have hkg : k ≠ g := by rintro rfl; rw [ht] at hk; cases hk; exact h1 _ _ rfl
    refine (hoth k hkg).trans ((hgr.block k (Array.getElem?_eq_some_iff.1 (hkV k o hk)).1 fun e => ?_).trans (hkV k o hk))
    rcases hr.2 with ⟨rfl, _⟩ | ⟨q, cap, cur, rfl, _, hgb, _⟩
    · cases e
    · obtain rfl : k = q := by simpa [Value.ownBlock] using e
      rw [hk] at hgb; cases hgb; exact h2 _ _ rfl
  · have hb : Below B w w1 := (hV.mono hB).trans ⟨hgr.os, hgr.tape, hgr.output, hgr.size, fun k hk => hgr.block k (by have := hV.size; omega) fun e => by have := (hrV.lt k e.symm).1; omega⟩
    exact hb.setCell (p := ⟨g, 0, none⟩) hg _
set_option maxRecDepth 100000 in
set_option maxHeartbeats 4000000 in
theorem add_any {B : Nat} {G : Gr} {E c g mb x : Nat} {pv v : Value} {sl : Nat → Value} {nx : Nat → Nat} {t : T} {w : World} (ht : w.heap[g]? = some (.cells #[pv, .map (some mb), .int .i64 (E : Int), .int .i64 (c : Int)] 80 (0, 0))) (hg : B ≤ g) (hB : B ≤ w.heap.size) (hr : w.ownsRow B 102 4 pv G.N (rowN G.tr sl nx G.N)) (hN : G.N ≤ 1000000) (hv1 : v.oneCell' = true) :
    Calls Tryd.prog 52 #[gp g, .agg #[.int .i64 t.kind, .string t.name, v, .int .i64 (x : Int)]] w fun e w' => e = .returned (.int .i64 (G.N : Int)) ∧ Added B G t v E c g mb sl nx w w' := by
  obtain ⟨pa, pc, rfl⟩ := row_slice hr
  have hgl := (Array.getElem?_eq_some_iff.1 ht).1
  have y0 : w.cell? ⟨g, 0, none⟩ = some (.slice pa G.N pc) := by rw [Lib.cell_of_heap ht]; rfl
  obtain ⟨W1, hW1⟩ : ∃ W1, w.alloc (.cells #[.int .i64 t.kind, .string t.name, v, .int .i64 (x : Int)] 102) = W1 := ⟨_, rfl⟩
  have hb1 : Below w.heap.size w W1 := by rw [← hW1]; exact (Below.refl _ w).alloc (Nat.le_refl _) _
  have hx1 : W1.heap[w.heap.size]? = some (.cells #[.int .i64 t.kind, .string t.name, v, .int .i64 (x : Int)] 102 (0, 0)) := by rw [← hW1]; exact alloc_new w _
  have y1 : ∀ o : Obj, (w.alloc o).cell? ⟨g, 0, none⟩ = some (.slice pa G.N pc) := fun o => (((Below.refl w.heap.size w).alloc (Nat.le_refl _) o).cell (p := ⟨g, 0, none⟩) hgl).trans y0
  have HT := Lib.hid ht; have HR := Lib.hid hr
  obtain ⟨i0, hi0, hz0, hz1, hz2⟩ := info_parts Tryd.infoPart
  clear ht hr hb1 hx1 hW1
  go_enter Tryd.func52, Tryd.ntmps52
  go_wp2
  obtain ⟨V, hV⟩ : ∃ V, w.alloc (.cells #[.int .i64 t.kind, .string t.name, v, .int .i64 (G.N : Int)] 102) = V := ⟨_, rfl⟩
  have hbV : Below w.heap.size w V := by rw [← hV]; exact (Below.refl _ w).alloc (Nat.le_refl _) _
  have hbx : V.heap[w.heap.size]? = some (.cells #[.int .i64 t.kind, .string t.name, v, .int .i64 (G.N : Int)] 102 (0, 0)) := by rw [← hV]; exact alloc_new w _
  rw [hV]
  have z0 := (hbV.cell (p := ⟨g, 0, none⟩) hgl).trans y0
  obtain ⟨x0, x1, x2, x3⟩ := cells_four hbx
  have hlV := (Array.getElem?_eq_some_iff.1 hbx).1
  have hgV : g < V.heap.size := Nat.lt_of_lt_of_le hgl hbV.size
  have HBV := Lib.hid hbV; have HBX := Lib.hid hbx
  have al : Hid (∀ (q : Addr) (x : Value) (o : Obj), V.cell? q = some x → (V.alloc o).cell? q = some x) := Lib.hid fun q x o h => (((Below.refl V.heap.size V).alloc (Nat.le_refl _) o).cell (World.block_lt_of_cell? _ _ h)).trans h
  have HO := Lib.hid (show ∀ o : Obj, (V.drew.alloc o).ownsRow B 102 4 (.slice pa G.N pc) G.N (rowN G.tr sl nx G.N) from fun o => row_kept HR.out fun k cs fz hk => (Below.heap_alloc V.drew o k (Nat.lt_of_lt_of_le (Array.getElem?_eq_some_iff.1 hk).1 hbV.size)).trans ((hbV.block k (Array.getElem?_eq_some_iff.1 hk).1).trans hk))
  have HA := Lib.hid (fun (o : Obj) (w1 : World) (pv' : Value) h1 h2 => added_of (t := t) (v := v) (V := V.drew.alloc o) (w1 := w1) (pv' := pv') HT.out hg hB HR.out (hbV.drew.alloc hbV.size o) h1 h2)
  have HF := Lib.hid (show ∀ (o : Obj) (w1 : World), (V.drew.alloc o).grownBy w1 (Value.slice pa G.N pc).ownBlock → w1.heap[w.heap.size]? = some (.cells #[.int .i64 t.kind, .string t.name, v, .int .i64 (G.N : Int)] 102 (0, 0)) from fun o w1 hgr =>
    (hgr.block _ (Nat.lt_of_lt_of_le hlV (by simp)) fun e => by have := (HR.out.lt _ e.symm).2; omega).trans ((Below.heap_alloc V.drew o _ hlV).trans hbx))
  clear hV hbV hbx y0 y1
  go_region_law ((refine step_append_lies _ (by rfl) _ _ 78 (by rfl) B 102 i0 (.agg #[.int .i64 0, .string ⟨#[]⟩, .slice none 0 0, .int .i64 0]) 4 56 Tryd.underlying78 hi0 hz0 hz1 hz2 rfl (by decide) _ G.N (rowN G.tr sl nx G.N) (by rfl) (HO.out _) ⟨V.heap.size, 0, none⟩ 1 1 (encN t v G.N) (by rfl) rfl (new_cellsL _ _ _) (encN_one hv1) (by decide) (by unfold maxLen; omega) (by omega) (by simp; omega) (V.heap.size + 1) (by simp) ?_; intro g' cap' w1 hown1 hgr1 hat1 hlt1; obtain ⟨hb1, hA1⟩ := HA.out _ _ _ hown1 hgr1; have u0 : w1.cell? ⟨g, 0, none⟩ = some (.slice pa G.N pc) := (by rw [Lib.cell_of_heap hb1]; rfl); have u2 := Lib.frozen_of_heap hb1 0; have u3 : ∀ y : Value, (w1.setCell ⟨g, 0, none⟩ y).cell? ⟨w.heap.size, 3, none⟩ = some (.int .i64 (G.N : Int)) := (fun y => (World.cell?_of_block (a := ⟨w.heap.size, 3, none⟩) (Below.heap_setCell w1 ⟨g, 0, none⟩ y w.heap.size (by show w.heap.size ≠ g; omega))).trans (by rw [Lib.cell_of_heap (HF.out _ _ hgr1)]; rfl)); have HA1 := Lib.hid hA1; clear hA1 hown1 hgr1))
  all_goals
    go_wp2
    go_ret
    exact ⟨rfl, HA1.out⟩
end Go.Proofs.YthpphjkoiipkkaaDoor
/- The program's graph: putVar, put. -/
namespace Go.Proofs.YthpphjkoiipkkaaDoor
open Go.RowKit Go.Maps
attribute [local go_sem] Oper.semAt_some

/-- More parts were laid: what was there is as it was. -/
structure ExtG (G : Gr) (rt : Nat → Nat) (G' : Gr) (rt' : Nat → Nat) : Prop where
  n : G.N ≤ G'.N
  old : ∀ i, i < G.N → G'.tr i = G.tr i ∧ G'.ag i = G.ag i
  si : ∀ σ, SI G σ rt → SI G' σ rt'
  ac : Acyc G' rt' → Acyc G rt
theorem ExtG.refl (G : Gr) (rt : Nat → Nat) : ExtG G rt G rt := ⟨Nat.le_refl _, fun _ _ => ⟨rfl, rfl⟩, fun _ h => h, id⟩
theorem ExtG.trans {G1 G2 G3 : Gr} {r1 r2 r3 : Nat → Nat} (h : ExtG G1 r1 G2 r2) (k : ExtG G2 r2 G3 r3) : ExtG G1 r1 G3 r3 :=
  ⟨Nat.le_trans h.n k.n, fun _ hi => by have h1 := h.old _ hi; have h2 := k.old _ (Nat.lt_of_lt_of_le hi h.n); exact ⟨h2.1.trans h1.1, h2.2.trans h1.2⟩, fun σ h1 => k.si σ (h.si σ h1), fun h1 => h.ac (k.ac h1)⟩
theorem ExtG.snoc {G : Gr} {rt : Nat → Nat} (g : GI G rt) (t : T) (l : List Nat) (hv : t.isV = true → ∀ i, i < G.N → G.tr i ≠ t) : ExtG G rt (G.snoc t l) (upto rt G.N) :=
  ⟨Nat.le_succ _, fun _ hi => snoc_old G t l hi, fun _ h => h.snoc g hv, Acyc.snoc g⟩
/-- Rows of other kinds stay. -/
def KeepP (w w' : World) : Prop := ∀ (k : Nat) (cs : Array Value) (T : TypeId) (fz : Nat × Nat), w.heap[k]? = some (.cells cs T fz) → T ≠ 80 → T ≠ 102 → w'.heap[k]? = some (.cells cs T fz)
theorem KeepP.refl (w : World) : KeepP w w := fun _ _ _ _ h _ _ => h
theorem KeepP.trans {a b c : World} (h : KeepP a b) (k : KeepP b c) : KeepP a c := fun i cs T fz hi h1 h2 => k i cs T fz (h i cs T fz hi h1 h2) h1 h2
theorem KeepG.p {w w' : World} (h : KeepG w w') : KeepP w w' := fun k cs T fz hk h1 h2 => h k _ hk (fun cs' fz' e => by cases e; exact h1 rfl) (fun cs' fz' e => by cases e; exact h2 rfl)
theorem KeepP.of_below {w w' : World} (h : Below w.heap.size w w') : KeepP w w' := fun k _ _ _ hk _ _ => (h.block k (Array.getElem?_eq_some_iff.1 hk).1).trans hk
theorem KeepP.tys {w w' : World} (h : KeepP w w') : KeepT w w' := fun _ _ _ hk => h _ _ _ _ hk (by decide) (by decide)
theorem KeepP.ints {w w' : World} (h : KeepP w w') {v : Value} {l : List Nat} (hv : PlcAt w v l) : PlcAt w' v l := hv.keep fun _ _ _ hk => h _ _ _ _ hk (by decide) (by decide)
theorem MapV.mono {M m m' : Nat} {f : ByteArray → Option Nat} {w : World} (h : MapV M m f w) (hm : m ≤ m') : MapV M m' f w := by
  obtain ⟨D, hD, h1, h2⟩ := h
  exact ⟨D, hD, h1.mono hm, h2⟩
def snocV (sl : Nat → Value) (n : Nat) (v : Value) : Nat → Value := fun i => if i = n then v else sl i
/-- Behind add: the graph with one part more. -/
theorem GM.added {B : Nat} {G : Gr} {rt : Nat → Nat} {E c g mb : Nat} {sl : Nat → Value} {nx hh : Nat → Nat} {t : T} {l : List Nat} {v : Value} {w w' : World} (hg : B ≤ g) (W : Way G rt nx hh) (hi : ∀ i, i < G.N → PlcAt w (sl i) (G.ag i)) (hv : PlcAt w v l) (h : Added B G t v E c g mb sl nx w w') {w2 : World} (hw : ∀ (k : Nat) (cs : Array Value) (T : TypeId) (fz : Nat × Nat), w'.heap[k]? = some (.cells cs T fz) → w2.heap[k]? = some (.cells cs T fz)) (hm : ∃ f, B ≤ mb ∧ MapV mb (G.N + 1) f w2 ∧ PlV (G.snoc t l) f) :
    ∃ pv, GM B (G.snoc t l) (upto rt G.N) E c g mb pv (snocV sl G.N v) w2 := by
  obtain ⟨⟨pv, h1, h2⟩, h3, h4⟩ := h
  refine ⟨pv, hg, hw _ _ _ _ h1, ⟨upto nx G.N, hh, W.snoc t l, ?_, fun i hi2 => ?_⟩, hm⟩
  · have e : rowN (G.snoc t l).tr (snocV sl G.N v) (upto nx G.N) (G.snoc t l).N = rowN G.tr sl nx G.N ++ encN t v G.N := by
      show rowN _ _ _ (G.N + 1) = _
      rw [rowN, (snoc_new G t l).1, upto_new, rowN_congr (tr' := G.tr) (sl' := sl) (nx' := nx) fun i hi => ⟨(snoc_old G t l hi).1, by simp [snocV, show i ≠ G.N by omega], upto_old nx hi⟩]
      simp [snocV]
    rw [e]
    exact row_kept h2 fun k cs fz hk => hw k cs _ fz hk
  · have hk2 : ∀ {v : Value} {l : List Nat}, PlcAt w v l → PlcAt w2 v l := fun hv => (h3.ints hv).keep fun k cs fz hk => hw k cs _ fz hk
    rcases snoc_cases hi2 with h1 | rfl
    · rw [(snoc_old G t l h1).2]
      have : snocV sl G.N v i = sl i := by simp [snocV, show i ≠ G.N by omega]
      rw [this]; exact hk2 (hi i h1)
    · rw [(snoc_new G t l).2]
      have : snocV sl G.N v G.N = v := by simp [snocV]
      rw [this]; exact hk2 hv
/-- Rows of arguments are as they were, or new. -/
def NewSl (G : Gr) (sl : Nat → Value) (M : Nat) (G' : Gr) (sl' : Nat → Value) : Prop := ∀ k, k < G'.N → (k < G.N ∧ sl' k = sl k) ∨ (G.N ≤ k ∧ ∀ b, (sl' k).ownBlock = some b → M ≤ b)
theorem NewSl.refl (G : Gr) (sl : Nat → Value) (M : Nat) : NewSl G sl M G sl := fun _ hk => .inl ⟨hk, rfl⟩
theorem NewSl.trans {G1 G2 G3 : Gr} {s1 s2 s3 : Nat → Value} {M M' : Nat} (h : NewSl G1 s1 M G2 s2) (k : NewSl G2 s2 M' G3 s3) (hM : M ≤ M') (hN : G1.N ≤ G2.N) : NewSl G1 s1 M G3 s3 := fun i hi => by
  rcases k i hi with ⟨h1, e1⟩ | ⟨h1, h2⟩
  · rcases h i h1 with ⟨h3, e3⟩ | ⟨h3, h4⟩
    · exact .inl ⟨h3, e1.trans e3⟩
    · exact .inr ⟨h3, fun b hb => h4 b (by rw [← e1]; exact hb)⟩
  · exact .inr ⟨by omega, fun b hb => Nat.le_trans hM (h2 b hb)⟩
theorem NewSl.snoc {G : Gr} {sl : Nat → Value} {M : Nat} {t : T} {l : List Nat} {v : Value} (hv : ∀ b, v.ownBlock = some b → M ≤ b) : NewSl G sl M (G.snoc t l) (snocV sl G.N v) := fun k hk => by
  rcases snoc_cases hk with h1 | rfl
  · exact .inl ⟨h1, by simp [snocV, show k ≠ G.N by omega]⟩
  · exact .inr ⟨Nat.le_refl _, fun b hb => hv b (by simpa [snocV] using hb)⟩
/-- What put tells. -/
def PutR (B : Nat) (G : Gr) (rt : Nat → Nat) (E c g mb : Nat) (sl : Nat → Value) (t : T) (w : World) (e : Ending) (w' : World) : Prop :=
  ∃ G' rt' E' pv' sl' r, (e = .returned (.int .i64 (r : Nat)) ∧ r < G'.N ∧ G'.tr r = t) ∧ (ExtG G rt G' rt' ∧ GI G' rt' ∧ (∀ i, i < G'.N → (G'.ag i).length ≤ E') ∧ G'.N ≤ G.N + tsize t ∧ E ≤ E' ∧ E' + 1 ≤ E + tsize t ∧ NewSl G sl w.heap.size G' sl' ∧ ∀ i, G.N ≤ i → i < G'.N → ∀ x ∈ vs (G'.tr i), x ∈ vs t) ∧ GM B G' rt' E' c g mb pv' sl' w' ∧ KeepP w w' ∧ Below B w w'
theorem plv_con {G : Gr} {t : T} {l : List Nat} {f : ByteArray → Option Nat} (h : PlV G f) (hv : t.isV = false) : PlV (G.snoc t l) f := by
  intro n
  refine ⟨fun i e => ?_, fun e i hi => ?_⟩
  · obtain ⟨h1, h2⟩ := (h n).1 i e
    exact ⟨Nat.lt_succ_of_lt h1, (snoc_old G t l h1).1.trans h2⟩
  · rcases snoc_cases hi with h1 | rfl
    · rw [(snoc_old G t l h1).1]; exact (h n).2 e i h1
    · rw [(snoc_new G t l).1]; intro e2; rw [e2] at hv; cases hv
theorem plv_var {G : Gr} {n : ByteArray} {f f' : ByteArray → Option Nat} (h : PlV G f) (hf : ∀ k, f' k = if k = n then some G.N else f k) : PlV (G.snoc (.var n) []) f' := by
  intro k
  rw [hf]
  refine ⟨fun i e => ?_, fun e i hi => ?_⟩
  · by_cases hk : k = n
    · subst hk
      rw [if_pos rfl] at e
      cases e
      exact ⟨Nat.lt_succ_self _, (snoc_new G _ _).1⟩
    · rw [if_neg hk] at e
      obtain ⟨h1, h2⟩ := (h k).1 i e
      exact ⟨Nat.lt_succ_of_lt h1, (snoc_old G _ _ h1).1.trans h2⟩
  · by_cases hk : k = n
    · rw [if_pos hk] at e; cases e
    · rw [if_neg hk] at e
      rcases snoc_cases hi with h1 | rfl
      · rw [(snoc_old G _ _ h1).1]; exact (h k).2 e i h1
      · rw [(snoc_new G _ _).1]; intro e2; cases e2; exact hk rfl
set_option maxRecDepth 100000 in
set_option maxHeartbeats 4000000 in
theorem putVar_any {B : Nat} {G : Gr} {rt : Nat → Nat} {E c g mb : Nat} {pv : Value} {sl : Nat → Value} {n : ByteArray} {w : World} (h : GM B G rt E c g mb pv sl w) (gi : GI G rt) (hE : ∀ i, i < G.N → (G.ag i).length ≤ E) (hB : B ≤ w.heap.size) (hN : G.N + 1 ≤ 1000000) (hn : n.size ≤ 1000) :
    Calls Tryd.prog 51 #[gp g, .string n] w fun e w' => PutR B G rt E c g mb sl (.var n) w e w' := by
  obtain ⟨y0, y1, _, _, _⟩ := h.cells
  have hgl := h.lt
  have H := Lib.hid h
  obtain ⟨hbg, htop, ⟨nx, hh, hW, hr, hs⟩, ⟨f, hmb, hM, hP⟩⟩ := h
  have hlk := hM.look n (by unfold maxLen; omega)
  cases hf : f n with
  | some i =>
    rw [hf] at hlk
    simp only [Option.getD_some, Option.isSome_some] at hlk
    obtain ⟨h1, h2⟩ := (hP n).1 i hf
    have HR := Lib.hid (⟨G, rt, E, pv, sl, i, ⟨rfl, h1, h2⟩, ⟨ExtG.refl G rt, gi, hE, by omega, Nat.le_refl _, by simp [tsize], NewSl.refl _ _ _, fun i h1 h2 => absurd h2 (Nat.not_lt.2 h1)⟩, H.out, KeepP.refl w, Below.refl B w⟩ : PutR B G rt E c g mb sl (.var n) w (.returned (.int .i64 (i : Nat))) w)
    clear htop hr hs hM hP gi hE h1 h2
    go_enter Tryd.func51, Tryd.ntmps51
    go_wp2
    go_ret
    exact HR.out
  | none =>
    rw [hf] at hlk
    simp only [Option.getD_none, Option.isSome_none] at hlk
    have hnv : (T.var n).isV = true → ∀ i, i < G.N → G.tr i ≠ .var n := fun _ i hi => (hP n).2 hf i hi
    have hok : (G.snoc (.var n) []).OK := gi.ok.snoc (by simp [T.kids]) (fun x hx => nomatch hx) hnv (by simp [T.kind])
    have HA : Hid (Calls Tryd.prog 52 #[gp g, .agg #[.int .i64 1, .string n, .slice none 0 0, .int .i64 0]] w fun e w' => e = .returned (.int .i64 (G.N : Int)) ∧ Added B G (.var n) (.slice none 0 0) E c g mb sl nx w w') := Lib.hid (add_any (t := .var n) (x := 0) htop hbg hB hr (by omega) rfl)
    have HX := Lib.hid (⟨⟨hW, hs⟩, ⟨hM, hP⟩, gi, hE, hok, hnv⟩ : (Way G rt nx hh ∧ ∀ i, i < G.N → PlcAt w (sl i) (G.ag i)) ∧ (MapV mb G.N f w ∧ PlV G f) ∧ GI G rt ∧ (∀ i, i < G.N → (G.ag i).length ≤ E) ∧ (G.snoc (.var n) []).OK ∧ ((T.var n).isV = true → ∀ i, i < G.N → G.tr i ≠ .var n))
    clear htop hr hs hM hP gi hE hW hok hnv hf
    go_enter Tryd.func51, Tryd.ntmps51
    go_wp2_with (go_at_call 52; refine HA.out.mono ?_)
    rintro e w5 ⟨rfl, hA5⟩
    have hA5' := hA5
    obtain ⟨⟨pv5, t5, r5⟩, k5, b5⟩ := hA5
    have z1 : w5.cell? ⟨g, 1, none⟩ = some (.map (some mb)) := by rw [Lib.cell_of_heap t5]; rfl
    have hg5 := (Array.getElem?_eq_some_iff.1 t5).1
    have hM5 := k5.map HX.out.2.1.1
    obtain ⟨w6, hup, hM6, hg6⟩ := hM5.upd (g := fun k => if k = n then some G.N else f k) (by unfold maxLen; omega) n (by unfold maxLen; omega) G.N (by omega) (fun k => rfl)
    have hw : ∀ (k : Nat) (cs : Array Value) (T : TypeId) (fz : Nat × Nat), w5.heap[k]? = some (.cells cs T fz) → w6.heap[k]? = some (.cells cs T fz) := fun k cs T fz hk => (hg6.block k (Array.getElem?_eq_some_iff.1 hk).1 fun e => by cases e; exact hM5.ne hk rfl).trans hk
    have hb6 : Below B w w6 := b5.trans ⟨hg6.os, hg6.tape, hg6.output, hg6.size, fun k hk => hg6.block k (by have := b5.size; omega) fun e => by cases e; omega⟩
    obtain ⟨pv6, hgm6⟩ := GM.added (t := .var n) (l := []) hbg HX.out.1.1 HX.out.1.2 (.inl ⟨rfl, none, 0, rfl⟩) hA5' hw ⟨_, hmb, hM6, plv_var HX.out.2.1.2 fun k => rfl⟩
    have hx3 := HX.out.2.2.2.1
    have HR := Lib.hid (⟨G.snoc (.var n) [], upto rt G.N, E, pv6, _, G.N, ⟨rfl, Nat.lt_succ_self _, (snoc_new G _ _).1⟩, ⟨ExtG.snoc HX.out.2.2.1 _ _ HX.out.2.2.2.2.2, HX.out.2.2.1.snoc HX.out.2.2.2.2.1, fun i hi => by
      rcases snoc_cases hi with h1 | rfl
      · rw [(snoc_old G _ _ h1).2]; exact hx3 i h1
      · rw [(snoc_new G _ _).2]; exact Nat.zero_le _, by show G.N + 1 ≤ _; simp [tsize], Nat.le_refl _, by simp [tsize], NewSl.snoc fun b hb => (by cases hb), fun i h1 h2 x hx => by
      obtain rfl : i = G.N := by have : i < G.N + 1 := h2; omega
      rw [(snoc_new G _ _).1] at hx; exact hx⟩, hgm6, k5.p.trans fun k cs T fz hk _ _ => hw k cs T fz hk, hb6⟩ : PutR B G rt E c g mb sl (.var n) w (.returned (.int .i64 (G.N : Nat))) w6)
    clear hA5' t5 r5 k5 b5 hM5 hM6 hg6 hw hb6 hgm6 hx3
    go_wp2
    go_ret
    exact HR.out
/-- So many arguments more. -/
theorem GM.edge {B : Nat} {G : Gr} {rt : Nat → Nat} {E E' c g mb : Nat} {pv : Value} {sl : Nat → Value} {w : World} (h : GM B G rt E c g mb pv sl w) : GM B G rt E' c g mb pv sl (w.setCell ⟨g, 2, none⟩ (.int .i64 (E' : Int))) ∧ KeepG w (w.setCell ⟨g, 2, none⟩ (.int .i64 (E' : Int))) := by
  have ho : ∀ k, k ≠ g → (w.setCell ⟨g, 2, none⟩ (.int .i64 (E' : Int))).heap[k]? = w.heap[k]? := fun k hk => Below.heap_setCell _ ⟨g, 2, none⟩ _ k hk
  obtain ⟨h1, h2, ⟨nx, hh, h3, h4, h5⟩, ⟨f, h6, h7, h8⟩⟩ := h
  have hne : ∀ (k : Nat) (o : Obj), w.heap[k]? = some o → (∀ cs fz, o ≠ .cells cs 80 fz) → (w.setCell ⟨g, 2, none⟩ (.int .i64 (E' : Int))).heap[k]? = some o := fun k o hk hT => (ho k (by rintro rfl; rw [h2] at hk; cases hk; exact hT _ _ rfl)).trans hk
  refine ⟨⟨h1, ?_, ⟨nx, hh, h3, row_kept h4 fun _ _ _ hk => hne _ _ hk (by simp), fun i hi => (h5 i hi).keep fun _ _ _ hk => hne _ _ hk (by simp)⟩, ⟨f, h6, ?_, h8⟩⟩, fun k o hk h1 _ => hne k o hk h1⟩
  · rw [blk_set h2]; rfl
  · obtain ⟨D, hD, ⟨es, clock, hm, r⟩, h2⟩ := h7
    exact ⟨D, hD, ⟨es, clock, hne _ _ hm (by simp), r⟩, h2⟩
def PutOK (t : T) : Prop := ∀ (B : Nat) (G : Gr) (rt : Nat → Nat) (E c g mb : Nat) (pv : Value) (sl : Nat → Value) (w : World) (a : Option Addr) (ca : Nat), GM B G rt E c g mb pv sl w → GI G rt → (∀ i, i < G.N → (G.ag i).length ≤ E) → B ≤ w.heap.size → G.N + tsize t ≤ 1000000 → E + tsize t ≤ 1000000 → TysAt w (.slice a t.kids.length ca) t.kids →
    Calls Tryd.prog 35 #[gp g, tyV t (.slice a t.kids.length ca)] w fun e w' => PutR B G rt E c g mb sl t w e w'
set_option maxRecDepth 100000 in
set_option maxHeartbeats 4000000 in
theorem put_var (n : ByteArray) (hn : n.size ≤ 1000) : PutOK (.var n) := by
  intro B G rt E c g mb pv sl w a ca h gi hE hB hN hE2 hT
  have hb := (Below.refl _ w).alloc (Nat.le_refl _) (.cells #[.int .i64 1, .string n, .slice a 0 ca] 29)
  have HV := Lib.hid (putVar_any (n := n) (h.keep hb) gi hE (Nat.le_trans hB hb.size) (by simp [tsize] at hN; omega) hn)
  have HB := Lib.hid hb
  obtain ⟨z0, z1, z2⟩ := three_cells (alloc_new w (.cells #[.int .i64 1, .string n, .slice a 0 ca] 29))
  clear h gi hE hT hb
  simp only [tyV, T.kind, T.name, T.kids, List.length_nil]
  go_enter Tryd.func35, Tryd.ntmps35
  go_wp2_with (go_at_call 51; refine HV.out.mono ?_)
  rintro e w5 ⟨G', rt', E', pv', sl', r, ⟨rfl, h1, h2⟩, h3, h4, h5, h6⟩
  have HR := Lib.hid (⟨G', rt', E', pv', sl', r, ⟨rfl, h1, h2⟩, ⟨h3.1, h3.2.1, h3.2.2.1, h3.2.2.2.1, h3.2.2.2.2.1, h3.2.2.2.2.2.1, (NewSl.refl G sl w.heap.size).trans h3.2.2.2.2.2.2.1 HB.out.size (Nat.le_refl _), h3.2.2.2.2.2.2.2⟩, h4, (KeepP.of_below HB.out).trans h5, (HB.out.mono hB).trans h6⟩ : PutR B G rt E c g mb sl (.var n) w (.returned (.int .i64 (r : Nat))) w5)
  clear h1 h2 h3 h4 h5 h6
  go_wp2
  go_ret
  exact HR.out
/-- A store into a row of numbers that is none of the graph's. -/
theorem GM.other {B : Nat} {G : Gr} {rt : Nat → Nat} {E c g mb ab i : Nat} {pv x : Value} {sl : Nat → Value} {w : World} (h : GM B G rt E c g mb pv sl w) {cs : Array Value} {fz : Nat × Nat} (ha : w.heap[ab]? = some (.cells cs 3 fz)) (hd : ∀ k, k < G.N → G.ag k ≠ [] → (sl k).ownBlock ≠ some ab) : GM B G rt E c g mb pv sl (w.setCell ⟨ab, i, none⟩ x) := by
  have ho : ∀ k, k ≠ ab → (w.setCell ⟨ab, i, none⟩ x).heap[k]? = w.heap[k]? := fun k hk => Below.heap_setCell _ ⟨ab, i, none⟩ _ k hk
  have hne : ∀ (k : Nat) (o : Obj), w.heap[k]? = some o → (∀ cs fz, o ≠ .cells cs 3 fz) → (w.setCell ⟨ab, i, none⟩ x).heap[k]? = some o := fun k o hk hT => (ho k (by rintro rfl; rw [ha] at hk; cases hk; exact hT _ _ rfl)).trans hk
  obtain ⟨h1, h2, ⟨nx, hh, h3, h4, h5⟩, ⟨f, h6, h7, h8⟩⟩ := h
  refine ⟨h1, hne _ _ h2 (by simp), ⟨nx, hh, h3, row_kept h4 fun _ _ _ hk => hne _ _ hk (by simp), fun k hk => ?_⟩, ⟨f, h6, ?_, h8⟩⟩
  · rcases h5 k hk with e | ⟨q, cap, cs', fz', ev, hq, r⟩
    · exact .inl e
    · by_cases hag : G.ag k = []
      · left
        refine ⟨hag, some ⟨q, 0, none⟩, cap, ?_⟩
        rw [ev, hag]; rfl
      · refine .inr ⟨q, cap, cs', fz', ev, (ho q ?_).trans hq, r⟩
        rintro rfl
        exact hd k hk hag (by rw [ev]; rfl)
  · obtain ⟨D, hD, ⟨es, clock, hm, r⟩, h2⟩ := h7
    exact ⟨D, hD, ⟨es, clock, hne _ _ hm (by simp), r⟩, h2⟩
theorem GM.lowSl {B : Nat} {G : Gr} {rt : Nat → Nat} {E c g mb : Nat} {pv : Value} {sl : Nat → Value} {w : World} (h : GM B G rt E c g mb pv sl w) : ∀ k, k < G.N → G.ag k ≠ [] → ∀ b, (sl k).ownBlock = some b → b < w.heap.size := by
  obtain ⟨_, _, ⟨_, _, _, _, h5⟩, _⟩ := h
  intro k hk hag b hb
  rcases h5 k hk with ⟨e, _⟩ | ⟨q, cap, cs, fz, ev, hq, _⟩
  · exact (hag e).elim
  · rw [ev] at hb
    have : q = b := by simpa [Value.ownBlock] using hb
    rw [← this]; exact (Array.getElem?_eq_some_iff.1 hq).1
/-- Where put stands among a type's arguments. -/
def PutI (B : Nat) (G : Gr) (rt : Nat → Nat) (E c g mb : Nat) (sl : Nat → Value) (t : T) (v : Value) (w : World) (ab i : Nat) (wr : World) : Prop :=
  ∃ G' rt' E' pv' sl' Wf, GM B G' rt' E' c g mb pv' sl' wr ∧ (ExtG G rt G' rt' ∧ GI G' rt' ∧ (∀ i, i < G'.N → (G'.ag i).length ≤ E') ∧ G'.N ≤ G.N + tsizes (t.kids.take i) ∧ E ≤ E' ∧ E' + i ≤ E + tsizes (t.kids.take i)) ∧
    (NewSl G sl w.heap.size G' sl' ∧ (∀ k, k < G'.N → G'.ag k ≠ [] → (sl' k).ownBlock ≠ some ab) ∧ ∀ i, G.N ≤ i → i < G'.N → ∀ x ∈ vs (G'.tr i), ∃ k ∈ t.kids, x ∈ vs k) ∧
    (OwnI ab (.slice (some ⟨ab, 0, none⟩) t.kids.length t.kids.length) ((List.range t.kids.length).map Wf) wr ∧ ∀ k (hk : k < t.kids.length), k < i → Wf k < G'.N ∧ G'.tr (Wf k) = t.kids[k]) ∧
    KeepP w wr ∧ Below B w wr ∧ wr.heap[w.heap.size]? = some (.cells #[.int .i64 t.kind, .string t.name, v] 29 (0, 0))
theorem OwnI.blk {B q cap : Nat} {n : Nat} {l : List Nat} {w : World} (h : OwnI B (.slice (some ⟨q, 0, none⟩) n cap) l w) : ∃ cs, w.heap[q]? = some (.cells cs 3 (0, 0)) := by
  rcases h.2 with ⟨e, _⟩ | ⟨_, _, cur, e, _, hb, _⟩
  · cases e
  · cases e; exact ⟨cur, hb⟩
theorem OwnI.freeAt {B q cap n : Nat} {W : Nat → Nat} {w : World} (h : OwnI B (.slice (some ⟨q, 0, none⟩) n cap) ((List.range n).map W) w) (r : Nat) : w.frozen? ⟨q, r, none⟩ = false := by
  have hl : ((List.range n).map W).length = n := by simp
  exact World.ownsRow.frozenAt (n := n) (by unfold OwnI at h; rw [hl] at h; exact h) r
theorem OwnI.some {B q cap n : Nat} {W : Nat → Nat} {w : World} (h : OwnI B (.slice (some ⟨q, 0, none⟩) n cap) ((List.range n).map W) w) : ∃ x : Nat → Nat, ∀ r, r < n → w.cell? ⟨q, r, none⟩ = some (.int .i64 (x r : Nat)) := by
  have hl : ((List.range n).map W).length = n := by simp
  refine ⟨W, fun r hr => ?_⟩
  rw [World.ownsRow.cellAt (n := n) (by unfold OwnI at h; rw [hl] at h; exact h) r (by omega)]
  simp [intsV, hr]
/-- One argument more. -/
theorem PutI.next {B : Nat} {G : Gr} {rt : Nat → Nat} {E c g mb i r : Nat} {sl : Nat → Value} {t : T} {v : Value} {w wr w5 : World} {ab : Nat} (hab : w.heap.size < ab) (hB : B ≤ w.heap.size) (hi : i < t.kids.length)
    {G1 G2 : Gr} {r1 r2 : Nat → Nat} {E1 E2 : Nat} {pv2 : Value} {s1 s2 : Nat → Value} {Wf : Nat → Nat} {W1 : World}
    (x1 : ExtG G rt G1 r1 ∧ G1.N ≤ G.N + tsizes (t.kids.take i) ∧ E ≤ E1 ∧ E1 + i ≤ E + tsizes (t.kids.take i)) (x2 : NewSl G sl w.heap.size G1 s1 ∧ (∀ k, k < G1.N → G1.ag k ≠ [] → (s1 k).ownBlock ≠ some ab) ∧ ∀ i, G.N ≤ i → i < G1.N → ∀ x ∈ vs (G1.tr i), ∃ k ∈ t.kids, x ∈ vs k)
    (x3 : OwnI ab (.slice (some ⟨ab, 0, none⟩) t.kids.length t.kids.length) ((List.range t.kids.length).map Wf) wr ∧ ∀ k (hk : k < t.kids.length), k < i → Wf k < G1.N ∧ G1.tr (Wf k) = t.kids[k]) (x4 : KeepP w wr) (x5 : Below B w wr) (x6 : wr.heap[w.heap.size]? = some (.cells #[.int .i64 t.kind, .string t.name, v] 29 (0, 0)))
    (hW : Below wr.heap.size wr W1) (hr : r < G2.N ∧ G2.tr r = t.kids[i]) (y1 : ExtG G1 r1 G2 r2 ∧ GI G2 r2 ∧ (∀ i, i < G2.N → (G2.ag i).length ≤ E2) ∧ G2.N ≤ G1.N + tsize t.kids[i] ∧ E1 ≤ E2 ∧ E2 + 1 ≤ E1 + tsize t.kids[i] ∧ NewSl G1 s1 W1.heap.size G2 s2 ∧ ∀ j, G1.N ≤ j → j < G2.N → ∀ x ∈ vs (G2.tr j), x ∈ vs t.kids[i]) (y2 : GM B G2 r2 E2 c g mb pv2 s2 w5) (y3 : KeepP W1 w5) (y4 : Below B W1 w5) :
    PutI B G rt E c g mb sl t v w ab (i + 1) (w5.setCell ⟨ab, i, none⟩ (.int .i64 (r : Int))) := by
  obtain ⟨e1, n1, l1, b1⟩ := x1
  obtain ⟨e2, gi2, h2, n2, l2, b2, s12, v12⟩ := y1
  have ht : tsizes (t.kids.take (i + 1)) = tsizes (t.kids.take i) + tsize t.kids[i] := by
    rw [List.take_succ_eq_append_getElem hi]
    have : ∀ l m : List T, tsizes (l ++ m) = tsizes l + tsizes m := by
      intro l m
      induction l with
      | nil => simp [tsizes]
      | cons a l ih => rw [List.cons_append, tsizes, tsizes, ih]; omega
    rw [this]; simp [tsizes]
  have hk1 : KeepP wr w5 := (KeepP.of_below hW).trans y3
  have hO : OwnI ab (.slice (some ⟨ab, 0, none⟩) t.kids.length t.kids.length) ((List.range t.kids.length).map Wf) w5 := row_kept x3.1 fun k cs fz hk => hk1 k cs _ fz hk (by decide) (by decide)
  obtain ⟨cs, hcs⟩ := hO.blk
  obtain ⟨cs0, hcs0⟩ := x3.1.blk
  have habr : ab < wr.heap.size := (Array.getElem?_eq_some_iff.1 hcs0).1
  have hsz : ab < W1.heap.size := Nat.lt_of_lt_of_le habr hW.size
  have hdis : ∀ k, k < G2.N → G2.ag k ≠ [] → (s2 k).ownBlock ≠ some ab := fun k hk hag => by
    rcases s12 k hk with ⟨h, e⟩ | ⟨_, h⟩
    · rw [e]; exact x2.2.1 k h (by rw [← (e2.old k h).2]; exact hag)
    · intro e; have := h ab e; omega
  have hsw : w.heap.size ≤ W1.heap.size := by omega
  have ho : ∀ k, k ≠ ab → (w5.setCell ⟨ab, i, none⟩ (.int .i64 (r : Int))).heap[k]? = w5.heap[k]? := fun k hk => Below.heap_setCell _ ⟨ab, i, none⟩ _ k hk
  refine ⟨G2, r2, E2, pv2, s2, fun k => if k = i then r else Wf k, y2.other hcs hdis, ⟨e1.trans e2, gi2, h2, by omega, by omega, by omega⟩, ⟨x2.1.trans s12 hsw e1.n, hdis, fun j hj1 hj2 x hx => ?_⟩, ⟨hO.set hi, fun k hk hki => ?_⟩, ?_, ?_, ?_⟩
  · by_cases hj : j < G1.N
    · rw [(e2.old j hj).1] at hx; exact x2.2.2 j hj1 hj x hx
    · exact ⟨_, List.getElem_mem hi, v12 j (by omega) hj2 x hx⟩
  · by_cases e : k = i
    · subst e; simp only [if_true]; exact hr
    · simp only [if_neg e]
      obtain ⟨q1, q2⟩ := x3.2 k hk (by omega)
      exact ⟨Nat.lt_of_lt_of_le q1 e2.n, (e2.old _ q1).1.trans q2⟩
  · intro k cs T fz hk h1 h2
    exact (ho k (by have := (Array.getElem?_eq_some_iff.1 hk).1; omega)).trans ((x4.trans hk1) k cs T fz hk h1 h2)
  · exact (x5.trans ((hW.mono (by omega)).trans y4)).setCell (p := ⟨ab, i, none⟩) (by show B ≤ ab; omega) _
  · exact (ho _ (by omega)).trans (hk1 _ _ _ _ x6 (by decide) (by decide))
end Go.Proofs.YthpphjkoiipkkaaDoor
/- Two types as one: what is found as a list of pairs. -/
namespace Go.Proofs.YthpphjkoiipkkaaDoor

theorem app_sub (d : List PR) : ∀ t, app d t = sub (fun n => ty n d) t := by
  refine T.kidsInd fun t ih => ?_
  cases hv : t.isV with
  | true => rw [isV_var hv]; rfl
  | false =>
    have hn : ∀ n, t ≠ .var n := fun n e => by rw [e] at hv; cases hv
    obtain ⟨a1, a2, a3⟩ := app_parts d t hn
    obtain ⟨b1, b2, b3, _⟩ := sub_parts (fun n => ty n d) t hv
    refine T.ext3 (a1.trans b1.symm) (a2.trans b2.symm) ?_
    rw [a3, b3]
    exact List.map_congr_left ih
theorem ty_none {n : ByteArray} {d : List PR} (h : lk n d = none) : ty n d = .var n := by unfold ty; rw [h]; rfl
theorem ty_some {n : ByteArray} {d : List PR} {x : PR} (h : lk n d = some x) : ty n d = x.t := by unfold ty; rw [h]; rfl
theorem ty_one (n : ByteArray) (p : PR) : ty n [p] = one p.n p.t n := by
  by_cases h : n = p.n
  · subst h
    rw [one_at]
    exact ty_some (by rw [lk_cons, if_pos rfl])
  · rw [one_ne _ h]
    exact ty_none (by rw [lk_cons, if_neg (fun e => h e.symm)]; rfl)
/-- The document's Then. -/
noncomputable def thenR (s u : List PR) : List PR := (s.map fun x => { x with t := app u x.t }) ++ u.filter fun y => (lk y.n s).isNone
theorem lk_filter {n : ByteArray} {s : List PR} (h : lk n s = none) : ∀ u : List PR, lk n (u.filter fun y => (lk y.n s).isNone) = lk n u
  | [] => rfl
  | y :: u => by
    rw [List.filter_cons]
    by_cases e : y.n = n
    · rw [if_pos (by rw [e, h]; rfl), lk_cons, lk_cons, if_pos e, if_pos e]
    · rw [lk_cons n y u, if_neg e]
      split
      · rw [lk_cons, if_neg e]; exact lk_filter h u
      · exact lk_filter h u
theorem thenR_ty (s u : List PR) (n : ByteArray) : ty n (thenR s u) = app u (ty n s) := by
  unfold thenR
  rw [ty_append, lk_map (app u)]
  cases h : lk n s with
  | some x =>
    rw [if_pos (by rfl), ty_some h]
    exact ty_some (x := { x with t := app u x.t }) (by rw [lk_map (app u), h]; rfl)
  | none =>
    rw [if_neg (by simp), ty_none h]
    show ty n _ = ty n u
    unfold ty; rw [lk_filter h]
/-- Pairs that say what was found. -/
def IsSg (d : List PR) (σ : Sg) : Prop := ∀ n, ty n d = σ n
theorem IsSg.app {d : List PR} {σ : Sg} (h : IsSg d σ) (t : T) : app d t = sub σ t := by rw [app_sub]; exact sub_ext t fun n _ => h n
theorem isSg_nil : IsSg [] T.var := fun _ => rfl
theorem IsSg.bind {d e : List PR} {σ : Sg} {p : PR} (h : IsSg d σ) (he : ∀ n, ty n e = Go.Proofs.YthpphjkoiipkkaaDoor.app [p] (ty n d)) : IsSg e (fun n => sub (one p.n p.t) (σ n)) := by
  intro n
  rw [he, app_sub, h n]
  exact sub_ext _ fun m _ => ty_one m p
end Go.Proofs.YthpphjkoiipkkaaDoor
/- types.Has; the document's Size; texts in rows: Place, Has, SameTexts. -/
namespace Go.Proofs.YthpphjkoiipkkaaDoor
open Go.RowKit
attribute [local go_sem] Oper.semAt_some

/-- Whether a name is free in a type. -/
noncomputable def hasN (m : ByteArray) (t : T) (r : Bool) : Bool := (eqB t.kind 1 && eqB t.name m) || (!(eqB t.kind 4 && eqB t.name m) && r)
mutual
noncomputable def hasT (m : ByteArray) : T → Bool
  | .var n => eqB n m
  | .con _ l => hasTs m l
  | .fn a b => hasT m a || hasT m b
  | .all n a => !eqB n m && hasT m a
noncomputable def hasTs (m : ByteArray) : List T → Bool
  | [] => false
  | a :: l => hasT m a || hasTs m l
end
theorem hasT_eq (m : ByteArray) (t : T) : hasT m t = hasN m t (hasTs m t.kids) := by
  have e1 : ∀ (a b : Int), eqB a b = decide (a = b) := fun a b => by simp [eqB]
  cases t <;> simp [hasT, hasN, T.kind, T.name, T.kids, hasTs, e1]
theorem hasTs_take (m : ByteArray) (l : List T) (i : Nat) (h : i < l.length) : hasTs m (l.drop i) = (hasT m l[i] || hasTs m (l.drop (i + 1))) := by
  rw [List.drop_eq_getElem_cons h, hasTs]
open Classical in
mutual
theorem fv_mem (t : T) (bd out : List ByteArray) (n : ByteArray) : n ∈ fv bd out t ↔ n ∈ out ∨ (¬ n ∈ bd ∧ hasT n t = true) := by
  cases t with
  | var x =>
    rw [fv, hasT, eqB_iff]
    by_cases h : x ∈ bd ∨ x ∈ out
    · rw [if_pos h]
      constructor
      · exact .inl
      · rintro (h1 | ⟨h1, rfl⟩)
        · exact h1
        · exact h.resolve_left h1
    · rw [if_neg h]
      simp only [List.mem_append, List.mem_singleton]
      constructor
      · rintro (h1 | rfl)
        · exact .inl h1
        · exact .inr ⟨fun e => h (.inl e), rfl⟩
      · rintro (h1 | ⟨_, rfl⟩)
        · exact .inl h1
        · exact .inr rfl
  | con x l => rw [fv, hasT]; exact fvs_mem l bd out n
  | fn a b =>
    rw [fv, hasT, fv_mem b, fv_mem a, Bool.or_eq_true]
    constructor
    · rintro ((h | ⟨h1, h2⟩) | ⟨h1, h2⟩)
      · exact .inl h
      · exact .inr ⟨h1, .inl h2⟩
      · exact .inr ⟨h1, .inr h2⟩
    · rintro (h | ⟨h1, h2 | h2⟩)
      · exact .inl (.inl h)
      · exact .inl (.inr ⟨h1, h2⟩)
      · exact .inr ⟨h1, h2⟩
  | all x a =>
    rw [fv, hasT, fv_mem a, Bool.and_eq_true, Bool.not_eq_true']
    have : eqB x n = false ↔ ¬ n = x := by
      constructor
      · rintro h rfl; rw [eqB_true rfl] at h; cases h
      · intro h; exact eqB_false fun e => h e.symm
    rw [this, List.mem_cons]
    constructor
    · rintro (h | ⟨h1, h2⟩)
      · exact .inl h
      · exact .inr ⟨fun e => h1 (.inr e), fun e => h1 (.inl e), h2⟩
    · rintro (h | ⟨h1, h2, h3⟩)
      · exact .inl h
      · exact .inr ⟨fun e => e.elim h2 h1, h3⟩
theorem fvs_mem (l : List T) (bd out : List ByteArray) (n : ByteArray) : n ∈ fvs bd out l ↔ n ∈ out ∨ (¬ n ∈ bd ∧ hasTs n l = true) := by
  cases l with
  | nil => simp [fvs, hasTs]
  | cons a l =>
    rw [fvs, hasTs, fvs_mem l, fv_mem a, Bool.or_eq_true]
    constructor
    · rintro ((h | ⟨h1, h2⟩) | ⟨h1, h2⟩)
      · exact .inl h
      · exact .inr ⟨h1, .inl h2⟩
      · exact .inr ⟨h1, .inr h2⟩
    · rintro (h | ⟨h1, h2 | h2⟩)
      · exact .inl (.inl h)
      · exact .inl (.inr ⟨h1, h2⟩)
      · exact .inr ⟨h1, h2⟩
end
mutual
theorem has_good (t : T) (h : T.Good t) (n : ByteArray) (hn : ¬ n.data.toList ∈ T.vnames) : hasT n t = false := by
  cases t with
  | var x =>
    rw [hasT]
    exact eqB_false fun e => hn (by rw [T.Good] at h; rw [← e]; exact h)
  | con x l => rw [T.Good] at h; rw [hasT]; exact hass_good l h.2 n hn
  | fn a b => rw [T.Good] at h; rw [hasT, has_good a h.1 n hn, has_good b h.2 n hn]; rfl
  | all x a => rw [T.Good] at h; exact h.elim
theorem hass_good (l : List T) (h : T.Goods l) (n : ByteArray) (hn : ¬ n.data.toList ∈ T.vnames) : hasTs n l = false := by
  cases l with
  | nil => rw [hasTs]
  | cons a l => rw [T.Goods] at h; rw [hasTs, has_good a h.1 n hn, hass_good l h.2 n hn]; rfl
end

end Go.Proofs.YthpphjkoiipkkaaDoor
/- Two types as one: of the types that the statements make. -/
namespace Go.Proofs.YthpphjkoiipkkaaDoor

theorem br_ge2 (b : Bool) (s : List UInt8) : s.length ≤ (T.br b s).length := by
  unfold T.br; split <;> simp; omega
theorem vname_len {x : List UInt8} (h : x ∈ T.vnames) : 1 ≤ x.length := by
  simp [T.vnames] at h; rcases h with rfl | rfl | rfl <;> simp
theorem cname_len {x : List UInt8} (h : x ∈ T.cnames) : 1 ≤ x.length := by
  simp [T.cnames] at h; rcases h with rfl | rfl | rfl | rfl <;> simp
mutual
theorem tsize2_text (t : T) (h : T.Good t) : 2 * tsize t ≤ (T.text t).length + 1 := by
  cases t with
  | var n =>
    simp only [T.Good] at h
    have := vname_len h
    simp only [tsize, T.text]; omega
  | con n l =>
    simp only [T.Good] at h
    have h1 := cname_len h.1
    have h2 := tsizes2_texts l h.2
    simp only [tsize, T.text, List.length_append]; omega
  | fn a b =>
    simp only [T.Good] at h
    have h1 := tsize2_text a h.1
    have h2 := tsize2_text b h.2
    have h3 := br_ge2 a.arrow (T.text a)
    simp only [tsize, T.text, List.length_append, List.length_cons, List.length_nil]; omega
  | all n a => simp only [T.Good] at h
theorem tsizes2_texts (l : List T) (h : T.Goods l) : 2 * tsizes l ≤ (T.texts l).length := by
  cases l with
  | nil => simp [tsizes]
  | cons a r =>
    simp only [T.Goods] at h
    have h1 := tsize2_text a h.1
    have h2 := tsizes2_texts r h.2
    have h3 := br_ge2 a.wide (T.text a)
    simp only [tsizes, T.texts, List.length_append, List.length_cons, List.length_nil]; omega
end
theorem goods_mem {k : T} : ∀ {l : List T}, T.Goods l → k ∈ l → T.Good k
  | [], _, h => by cases h
  | a :: l, h, hk => by
    simp only [T.Goods] at h
    rcases List.mem_cons.1 hk with rfl | hk
    · exact h.1
    · exact goods_mem h.2 hk
theorem good_kid {t k : T} (h : T.Good t) (hk : k ∈ t.kids) : T.Good k := by
  cases t with
  | var n => cases hk
  | con n l => simp only [T.Good] at h; exact goods_mem h.2 hk
  | fn a b =>
    simp only [T.Good] at h
    simp [T.kids] at hk
    rcases hk with rfl | rfl
    · exact h.1
    · exact h.2
  | all n a => simp only [T.Good] at h
/-- The three variables of types that are made. -/
def V3 : List ByteArray := [⟨#[97]⟩, ⟨#[98]⟩, ⟨#[99]⟩]
theorem vname_in {n : ByteArray} (h : n.data.toList ∈ T.vnames) : n ∈ V3 := by
  have e : ∀ l : List UInt8, n.data.toList = l → n = ⟨l.toArray⟩ := fun l e => by
    cases n with | mk d => cases d; simp at e; rw [e]
  simp [T.vnames] at h
  rcases h with h | h | h
  · rw [e _ h]; simp [V3]
  · rw [e _ h]; simp [V3]
  · rw [e _ h]; simp [V3]
theorem good_in : ∀ t, T.Good t → TIn V3 t := by
  refine T.kidsInd fun t ih h x hx => ?_
  cases hv : t.isV with
  | true =>
    rw [isV_var hv] at h hx
    simp [vs] at hx
    subst hx
    exact vname_in (by simpa [T.Good] using h)
  | false =>
    obtain ⟨k, hk, hx⟩ := (vs_kids hv).1 hx
    exact ih k hk (good_kid h hk) x hx
/-- No variable is bound. -/
def NoAll (t : T) : Prop := ∀ x, hasT x t = true ↔ x ∈ vs t
theorem hasTs_any (x : ByteArray) : ∀ l : List T, hasTs x l = true ↔ ∃ k ∈ l, hasT x k = true
  | [] => by simp [hasTs]
  | a :: l => by rw [hasTs, Bool.or_eq_true, hasTs_any x l]; simp
theorem noAll_of {t : T} (h4 : t.kind ≠ 4) (hk : ∀ k ∈ t.kids, NoAll k) : NoAll t := by
  intro x
  cases t with
  | var n => rw [hasT, eqB_iff]; simp [vs, eq_comm]
  | con n l =>
    rw [hasT, hasTs_any, vs_kids rfl]
    exact ⟨fun ⟨k, h1, h2⟩ => ⟨k, h1, (hk k h1 x).1 h2⟩, fun ⟨k, h1, h2⟩ => ⟨k, h1, (hk k h1 x).2 h2⟩⟩
  | fn a b =>
    rw [hasT, Bool.or_eq_true, hk a (by simp [T.kids]) x, hk b (by simp [T.kids]) x]
    simp [vs]
  | all n a => exact absurd rfl h4
/-- No kind but the three, anywhere. -/
inductive Plain3 : T → Prop
  | mk (t : T) : t.kind ≠ 4 → (∀ k ∈ t.kids, Plain3 k) → Plain3 t
theorem Plain3.no {t : T} (h : Plain3 t) : NoAll t := by
  induction h with
  | mk t h _ ih => exact noAll_of h ih
theorem Plain3.kid {t k : T} (h : Plain3 t) (hk : k ∈ t.kids) : Plain3 k := by cases h with | mk _ _ h => exact h k hk
theorem Plain3.four {t : T} (h : Plain3 t) : t.kind ≠ 4 := by cases h; assumption
theorem good_plain : ∀ t, T.Good t → Plain3 t := by
  refine T.kidsInd fun t ih h => .mk t ?_ fun k hk => ih k hk (good_kid h hk)
  cases t with
  | all n a => simp only [T.Good] at h
  | _ => simp [T.kind]
theorem plain_sub {σ : Sg} : ∀ t, Plain3 t → (∀ y ∈ vs t, Plain3 (σ y)) → Plain3 (sub σ t) := by
  refine T.kidsInd fun t ih h hs => ?_
  cases hv : t.isV with
  | true =>
    rw [isV_var hv] at hs ⊢
    exact hs _ (by simp [vs])
  | false =>
    obtain ⟨a1, _, a3, _⟩ := sub_parts σ t hv
    refine .mk _ (by rw [a1]; exact h.four) fun k hk => ?_
    rw [a3] at hk
    obtain ⟨k0, hk0, rfl⟩ := List.mem_map.1 hk
    exact ih k0 hk0 (h.kid hk0) fun y hy => hs y ((vs_kids hv).2 ⟨k0, hk0, hy⟩)
theorem from_plain {O : T → Prop} {σ : Sg} (hF : FromU O σ) (hP : ∀ t, O t → Plain3 t) : ∀ n x, tsize (σ x) ≤ n → Plain3 (σ x) := by
  intro n
  induction n with
  | zero => intro x h; have := tsize_pos (σ x); omega
  | succ n ih =>
    intro x hx
    rcases hF x with hv | ⟨t, ht, hvt, et⟩
    · rw [isV_var hv]; exact .mk _ (by simp [T.kind]) fun k hk => by cases hk
    · rw [et]
      refine plain_sub t (hP t ht) fun y hy => ih y ?_
      have hlt : tsize (σ y) < tsize (σ x) := by rw [et]; exact size_sub_lt hvt hy
      omega
theorem size_sub_ge {σ : Sg} : ∀ t, tsize t ≤ tsize (sub σ t) := by
  refine T.kidsInd fun t ih => ?_
  cases hv : t.isV with
  | true => rw [isV_var hv]; exact tsize_pos _
  | false =>
    obtain ⟨_, _, a3, _⟩ := sub_parts σ t hv
    rw [tsize_eq t, tsize_eq (sub σ t), a3]
    have key : ∀ l : List T, (∀ k ∈ l, tsize k ≤ tsize (sub σ k)) → tsizes l ≤ tsizes (l.map (sub σ)) := by
      intro l
      induction l with
      | nil => intro _; simp [tsizes]
      | cons a l ih2 =>
        intro hl
        have h1 := hl a (by simp)
        have h2 := ih2 fun k hk => hl k (List.mem_cons_of_mem _ hk)
        rw [List.map_cons, tsizes, tsizes]; omega
    have := key t.kids ih
    omega
/-- Types that a statement starts with: closed under parts; of so many variables; never too great. -/
structure USet where
  V : List ByteArray
  O : T → Prop
  kid : ∀ t, O t → ∀ k ∈ t.kids, O k
  tin : ∀ t, O t → TIn V t
  var : ∀ x ∈ V, O (.var x)
  plain : ∀ t, O t → Plain3 t
  G : Sg → Prop
  P : T → T → Prop
  start : G T.var
  kids : ∀ a b, P a b → a.isV = false → b.isV = false → a.kids.length = b.kids.length → ∀ i (h1 : i < a.kids.length) (h2 : i < b.kids.length), P a.kids[i] b.kids[i]
  «at» : ∀ σ a b, G σ → P a b → P (sub σ a) (sub σ b)
  fin : ∀ f σ a b τ, Idem σ → G σ → P a b → uni f σ a b = some (.ok τ) → G τ
  le : ∀ σ, FromU O σ → G σ → ∀ t, O t → tsize (sub σ t) ≤ 900000000
  nm : ∀ x ∈ V, x.size ≤ 1000
  sz : ∀ t, O t → tsize t ≤ 400000
/-- Types of these variables, of at most so many parts. -/
def usetV (V : List ByteArray) (N : Nat) (h1 : 1 ≤ N) (h : N * N ^ V.length ≤ 900000000) (hn : ∀ x ∈ V, x.size ≤ 1000) (hN : N ≤ 400000) : USet where
  V := V
  O := fun t => TIn V t ∧ Plain3 t ∧ tsize t ≤ N
  kid := fun t ht k hk => ⟨fun x hx => by
      cases hv : t.isV with
      | true => rw [isV_var hv] at hk; cases hk
      | false => exact ht.1.kid hv hk x hx, ht.2.1.kid hk, by have := tsize_kid hk; have := ht.2.2; omega⟩
  tin := fun t ht => ht.1
  var := fun x hx => ⟨fun y hy => by simp [vs] at hy; exact hy ▸ hx, .mk _ (by simp [T.kind]) (fun k hk => by cases hk), by simpa [tsize] using h1⟩
  plain := fun t ht => ht.2.1
  G := fun _ => True
  P := fun _ _ => True
  start := trivial
  kids := fun _ _ _ _ _ _ _ _ _ => trivial
  «at» := fun _ _ _ _ _ => trivial
  fin := fun _ _ _ _ _ _ _ _ _ => trivial
  le := fun σ hF _ t ht => by
    have h0 : ∀ x ∈ V, tsize (σ x) ≤ N ^ V.length := fun x hx => from_le (V := V) (N := N) hF (fun t ht _ => ht.1) (fun t ht => ht.2.2) h1 hx
    have h2 := size_subs (σ := σ) (M := N ^ V.length) (Nat.one_le_pow _ _ h1) t fun y hy => h0 y (ht.1 y hy)
    have h3 := Nat.mul_le_mul_right (N ^ V.length) ht.2.2
    omega
  nm := hn
  sz := fun t ht => Nat.le_trans ht.2.2 hN
theorem v3_small : ∀ x ∈ V3, x.size ≤ 1000 := by
  intro x hx
  simp [V3] at hx
  rcases hx with rfl | rfl | rfl <;> decide
def uset3 : USet := usetV V3 107 (by decide) (by decide) v3_small (by decide)
theorem good_o3 {t : T} (h : T.Good t) (hs : tsize t ≤ 107) : uset3.O t := ⟨good_in t h, good_plain t h, hs⟩
/-- What was found so far, of types that a statement makes. -/
structure UInv (S : USet) (σ : Sg) : Prop where
  idem : Idem σ
  src : FromU S.O σ
  vin : VIn S.V σ
  good : S.G σ
theorem uinv_var (S : USet) : UInv S T.var := ⟨idem_var, from_var _, vin_var _, S.start⟩
/-- A type within what was made, with what was found so far in it. -/
def UArg (S : USet) (σ : Sg) (a : T) : Prop := InstU S.O σ a
theorem UInv.var_le {S : USet} {σ : Sg} (h : UInv S σ) {x : ByteArray} (hx : x ∈ S.V) : tsize (σ x) ≤ 900000000 := S.le σ h.src h.good (.var x) (S.var x hx)
theorem UInv.plain {S : USet} {σ : Sg} (h : UInv S σ) {t : T} (ht : S.O t) : Plain3 (sub σ t) :=
  plain_sub t (S.plain t ht) fun y _ => from_plain h.src S.plain _ y (Nat.le_refl _)
theorem UArg.le {S : USet} {σ : Sg} {a : T} (h : UArg S σ a) (hi : UInv S σ) : tsize (sub σ a) ≤ 900000000 ∧ tsize a ≤ 900000000 := by
  obtain ⟨o, ho, e⟩ := h
  have h1 := S.le σ hi.src hi.good o ho
  rw [← e] at h1
  exact ⟨h1, Nat.le_trans (size_sub_ge a) h1⟩
theorem UArg.plain {S : USet} {σ : Sg} {a : T} (h : UArg S σ a) (hi : UInv S σ) : Plain3 (sub σ a) := by
  obtain ⟨o, ho, e⟩ := h
  rw [e]; exact hi.plain ho
theorem UArg.tin {S : USet} {σ : Sg} {a : T} (h : UArg S σ a) (hi : UInv S σ) : TIn S.V (sub σ a) := by
  obtain ⟨o, ho, e⟩ := h
  rw [e]; exact hi.vin.sub (S.tin o ho)
theorem UArg.ext {S : USet} {σ τ : Sg} {a : T} (h : UArg S σ a) (hi : UInv S σ) (he : ExtU σ τ) : UArg S τ a := InstU.ext h he hi.idem
theorem UArg.kid {S : USet} {σ : Sg} {a k : T} (h : UArg S σ a) (hi : UInv S σ) (hv : (sub σ a).isV = false) (hk : k ∈ (sub σ a).kids) : UArg S σ k := InstU.kid S.kid h hi.src hi.idem hv hk
theorem UArg.of {S : USet} {σ : Sg} {a : T} (h : S.O a) : UArg S σ a := ⟨a, h, rfl⟩
/-- Pairs that say what was found, none twice, of these variables. -/
structure PInv (S : USet) (d : List PR) (σ : Sg) : Prop where
  is : IsSg d σ
  each : ∀ x ∈ d, x.n ∈ S.V ∧ x.t = σ x.n
  few : d.length + uns S.V σ ≤ S.V.length
theorem pinv_nil (S : USet) : PInv S [] T.var := ⟨isSg_nil, (fun _ h => nomatch h), by have := List.length_filter_le (fun x => @decide (T.var x = .var x) (Classical.propDecidable _)) S.V; simpa [uns] using this⟩
theorem PInv.len {S : USet} {d : List PR} {σ : Sg} (h : PInv S d σ) : d.length ≤ S.V.length := by have := h.few; omega
theorem PInv.sized {S : USet} {d : List PR} {σ : Sg} (h : PInv S d σ) (hi : UInv S σ) : ∀ x ∈ d, tsize x.t ≤ 900000000 := fun x hx => by
  rw [(h.each x hx).2]; exact hi.var_le (h.each x hx).1
/-- One more pair, as the document's Then and as the program's make it. -/
theorem PInv.bind {S : USet} {d q : List PR} {σ τ : Sg} {p : PR} (h : PInv S d σ) (hb : Binds σ p.n p.t τ) (hx : p.n ∈ S.V) (hq : ∀ y ∈ q, (∃ x ∈ d, y.n = x.n ∧ y.t = app [p] x.t) ∨ y.n = p.n ∧ y.t = p.t) (hl : q.length ≤ d.length + 1) (ht : ∀ n, ty n q = app [p] (ty n d)) : PInv S q τ := by
  have ha : ∀ t, app [p] t = sub (one p.n p.t) t := fun t => by rw [app_sub]; exact sub_ext t fun n _ => ty_one n p
  refine ⟨fun n => ?_, fun y hy => ?_, ?_⟩
  · rw [ht, h.is n, ha, hb.new]
  · rcases hq y hy with ⟨x, hx, e1, e2⟩ | ⟨e1, e2⟩
    · rw [e1, e2, (h.each x hx).2, ha, hb.new]
      exact ⟨(h.each x hx).1, rfl⟩
    · rw [e1, e2, hb.new]
      refine ⟨hx, ?_⟩
      show p.t = sub (one p.n p.t) (σ p.n)
      rw [hb.free]
      exact (one_at p.n p.t).symm
  · have h1 := hb.fewer (V := S.V) hx
    have h2 := h.few
    omega
end Go.Proofs.YthpphjkoiipkkaaDoor
