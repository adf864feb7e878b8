/- Merged: UgAdd, UgPut, UfList, TyVars, TySize, TyHas, UfGood, UgPutS, UgLike, UgJoinA, UgJoin, SbRGet, SbRApp, SbRApp2. -/
import Derived.Test.YtdcfemojkdoakaaDoorVm4
import Derived.Test.YtdcfemojkdoakaaDoorVm1
import Derived.Test.YtdcfemojkdoakaaDoorVm5
import Derived.Test.YtdcfemojkdoakaaDoorVm3
import Derived.Carry
import Derived.WalkSmall
import Derived.Deep.RegionHeld3
import Derived.Deep.AppendLies
/- The program's graph: parts are laid into it. -/
namespace Go.Proofs.YtdcfemojkdoakaaDoor
open Go.RowKit Go.Maps
attribute [local go_sem] Oper.semAt_some

theorem Tryd.infoPart : (Tryd.prog.info? 128).map (fun i => (i.zero, i.size, i.bytes)) = some (some (.agg #[.int .i64 0, .string ⟨#[]⟩, .slice none 0 0, .int .i64 0]), 4, 56) := by kernel_rfl
/-- One part more. -/
def Gr.snoc (G : Gr) (t : T) (l : List Nat) : Gr := ⟨G.N + 1, fun i => if i = G.N then t else G.tr i, fun i => if i = G.N then l else G.ag i⟩
def upto (rt : Nat → Nat) (n : Nat) : Nat → Nat := fun i => if i = n then n else rt i
theorem snoc_old (G : Gr) (t : T) (l : List Nat) {i : Nat} (h : i < G.N) : (G.snoc t l).tr i = G.tr i ∧ (G.snoc t l).ag i = G.ag i := by
  have : i ≠ G.N := by omega
  simp [Gr.snoc, this]
theorem snoc_new (G : Gr) (t : T) (l : List Nat) : (G.snoc t l).tr G.N = t ∧ (G.snoc t l).ag G.N = l := by simp [Gr.snoc]
theorem upto_old (rt : Nat → Nat) {n i : Nat} (h : i < n) : upto rt n i = rt i := by have : i ≠ n := by omega
                                                                                     simp [upto, this]
theorem upto_new (rt : Nat → Nat) (n : Nat) : upto rt n n = n := by simp [upto]
theorem snoc_cases {n i : Nat} (h : i < n + 1) : i < n ∨ i = n := by omega
theorem Gr.OK.snoc {G : Gr} (h : G.OK) {t : T} {l : List Nat} (hk : t.kids = l.map G.tr) (hl : ∀ x ∈ l, x < G.N) (hv : t.isV = true → ∀ i, i < G.N → G.tr i ≠ t) (h4 : t.kind ≠ 4) : (G.snoc t l).OK := by
  have hm : ∀ l : List Nat, (∀ x ∈ l, x < G.N) → l.map (G.snoc t l).tr = l.map G.tr := fun l hl => List.map_congr_left fun x hx => (snoc_old G t l (hl x hx)).1
  have hm2 : ∀ m : List Nat, (∀ x ∈ m, x < G.N) → m.map (G.snoc t l).tr = m.map G.tr := fun m hm => List.map_congr_left fun x hx => (snoc_old G t l (hm x hx)).1
  refine ⟨fun i hi => ?_, fun i hi x hx => ?_, fun i j hi hj vi e => ?_, fun i hi => ?_⟩
  · rcases snoc_cases hi with h1 | rfl
    · obtain ⟨e1, e2⟩ := snoc_old G t l h1
      rw [e1, e2, hm2 _ fun x hx => h.arg h1 hx]; exact h.kids i h1
    · obtain ⟨e1, e2⟩ := snoc_new G t l
      rw [e1, e2, hm2 _ hl]; exact hk
  · rcases snoc_cases hi with h1 | rfl
    · rw [(snoc_old G t l h1).2] at hx; exact h.low i h1 x hx
    · rw [(snoc_new G t l).2] at hx; exact hl x hx
  · rcases snoc_cases hi with h1 | rfl
    · rcases snoc_cases hj with h2 | rfl
      · rw [(snoc_old G t l h1).1] at vi e; rw [(snoc_old G t l h2).1] at e
        exact h.vars i j h1 h2 vi e
      · rw [(snoc_old G t l h1).1] at vi e; rw [(snoc_new G t l).1] at e
        exact (hv (e ▸ vi) i h1 e).elim
    · rcases snoc_cases hj with h2 | rfl
      · rw [(snoc_new G t l).1] at vi e; rw [(snoc_old G t l h2).1] at e
        exact (hv vi j h2 e.symm).elim
      · rfl
  · rcases snoc_cases hi with h1 | rfl
    · rw [(snoc_old G t l h1).1]; exact h.three i h1
    · rw [(snoc_new G t l).1]; exact h4
theorem map_upto {rt : Nat → Nat} {n : Nat} {l : List Nat} (h : ∀ x ∈ l, x < n) : l.map (upto rt n) = l.map rt := List.map_congr_left fun x hx => upto_old rt (h x hx)
theorem GI.snoc {G : Gr} {rt : Nat → Nat} (h : GI G rt) {t : T} {l : List Nat} (ho : (G.snoc t l).OK) : GI (G.snoc t l) (upto rt G.N) := by
  have key : ∀ i, i < G.N → upto rt G.N i < G.N ∧ upto rt G.N i = rt i := fun i hi => by rw [upto_old rt hi]; exact ⟨h.lt i hi, rfl⟩
  refine ⟨ho, fun i hi => ?_, fun i hi => ?_, fun i j hi hj e vi vj => ?_, fun i hi vi => ?_⟩
  · rcases snoc_cases hi with h1 | rfl
    · exact Nat.lt_succ_of_lt (key i h1).1
    · rw [upto_new]; exact Nat.lt_succ_self _
  · rcases snoc_cases hi with h1 | rfl
    · rw [(key i h1).2, upto_old rt (h.lt i h1), h.fix i h1]
    · rw [upto_new, upto_new]
  · rcases snoc_cases hi with h1 | rfl
    · rcases snoc_cases hj with h2 | rfl
      · rw [(key i h1).2, (key j h2).2] at e
        rw [(snoc_old G t l h1).1] at vi ⊢
        rw [(snoc_old G t l h2).1] at vj ⊢
        rw [(snoc_old G t l h1).2, (snoc_old G t l h2).2, map_upto fun x hx => h.ok.arg h1 hx, map_upto fun x hx => h.ok.arg h2 hx]
        exact h.con i j h1 h2 e vi vj
      · rw [upto_new, (key i h1).2] at e
        have := h.lt i h1; omega
    · rcases snoc_cases hj with h2 | rfl
      · rw [upto_new, (key j h2).2] at e
        have := h.lt j h2; omega
      · exact ⟨rfl, rfl, rfl⟩
  · rcases snoc_cases hi with h1 | rfl
    · rw [(key i h1).2, (snoc_old G t l (h.lt i h1)).1]
      rw [(snoc_old G t l h1).1] at vi
      exact h.nv i h1 vi
    · rw [upto_new]; exact vi
theorem SI.snoc {G : Gr} {rt : Nat → Nat} {σ : Sg} (g : GI G rt) (h : SI G σ rt) {t : T} {l : List Nat} (hv : t.isV = true → ∀ i, i < G.N → G.tr i ≠ t) : SI (G.snoc t l) σ (upto rt G.N) := by
  refine ⟨h.idem, fun i j hi hj e => ?_, fun i hi ri vi => ?_, fun x hx => h.out x fun i hi e => hx i (Nat.lt_succ_of_lt hi) (by rw [(snoc_old G t l hi).1]; exact e)⟩
  · rcases snoc_cases hi with h1 | rfl
    · rcases snoc_cases hj with h2 | rfl
      · rw [upto_old rt h1, upto_old rt h2] at e
        rw [(snoc_old G t l h1).1, (snoc_old G t l h2).1]
        exact h.eqv i j h1 h2 e
      · rw [upto_new, upto_old rt h1] at e
        have := g.lt i h1; omega
    · rcases snoc_cases hj with h2 | rfl
      · rw [upto_new, upto_old rt h2] at e
        have := g.lt j h2; omega
      · rfl
  · rcases snoc_cases hi with h1 | rfl
    · rw [upto_old rt h1] at ri
      rw [(snoc_old G t l h1).1] at vi ⊢
      exact h.free i h1 ri vi
    · rw [(snoc_new G t l).1] at vi ⊢
      have e := isV_var vi
      rw [e]
      exact h.out _ fun i hi e2 => hv vi i hi (e2.trans e.symm)
theorem Acyc.snoc {G : Gr} {rt : Nat → Nat} (g : GI G rt) {t : T} {l : List Nat} (h : Acyc (G.snoc t l) (upto rt G.N)) : Acyc G rt := by
  obtain ⟨m, hm⟩ := h
  refine ⟨m, fun i hi ri x hx => ?_⟩
  have := hm i (Nat.lt_succ_of_lt hi) (by rw [upto_old rt hi]; exact ri) x (by rw [(snoc_old G t l hi).2]; exact hx)
  rwa [upto_old rt (g.ok.arg hi hx)] at this
theorem Way.snoc {G : Gr} {rt nx h : Nat → Nat} (W : Way G rt nx h) (t : T) (l : List Nat) : Way (G.snoc t l) (upto rt G.N) (upto nx G.N) h := by
  refine ⟨fun i hi => ?_, fun i hi => ?_, fun i hi => ?_, fun i hi e => ?_⟩ <;> rcases snoc_cases hi with h1 | rfl
  · rw [upto_old nx h1]; exact Nat.lt_succ_of_lt (W.lt i h1)
  · rw [upto_new]; exact Nat.lt_succ_self _
  · rw [upto_old nx h1, upto_old rt h1]; exact W.fix i h1
  · rw [upto_new, upto_new]
  · rw [upto_old nx h1, upto_old rt (W.lt i h1), upto_old rt h1]; exact W.on i h1
  · rw [upto_new]
  · rw [upto_old nx h1] at e ⊢; exact W.down i h1 e
  · rw [upto_new] at e; exact (e rfl).elim
/-- All but the graph and its parts stays. -/
def KeepG (w w' : World) : Prop := ∀ (k : Nat) (o : Obj), w.heap[k]? = some o → (∀ cs fz, o ≠ .cells cs 95 fz) → (∀ cs fz, o ≠ .cells cs 128 fz) → w'.heap[k]? = some o
theorem KeepG.trans {a b c : World} (h : KeepG a b) (k : KeepG b c) : KeepG a c := fun i o hi h1 h2 => k i o (h i o hi h1 h2) h1 h2
theorem KeepG.of_below {w w' : World} (h : Below w.heap.size w w') : KeepG w w' := fun k _ hk _ _ => (h.block k (Array.getElem?_eq_some_iff.1 hk).1).trans hk
theorem KeepG.ints {w w' : World} (h : KeepG w w') {v : Value} {l : List Nat} (hv : PlcAt w v l) : PlcAt w' v l := hv.keep fun _ _ _ hk => h _ _ hk (by simp) (by simp)
theorem KeepG.tys {w w' : World} (h : KeepG w w') : KeepT w w' := fun _ _ _ hk => h _ _ hk (by simp) (by simp)
theorem KeepG.map {M m : Nat} {f : ByteArray → Option Nat} {w w' : World} (k : KeepG w w') (h : MapV M m f w) : MapV M m f w' := by
  obtain ⟨D, hD, ⟨es, clock, hm, r⟩, h2⟩ := h
  exact ⟨D, hD, ⟨es, clock, k _ _ hm (by simp) (by simp), r⟩, h2⟩
theorem encN_one {t : T} {v : Value} {x : Nat} (hv : v.oneCell' = true) : ∀ u ∈ encN t v x, u.oneCell' = true := by
  intro u hu
  simp only [encN, List.mem_cons, List.not_mem_nil, or_false] at hu
  rcases hu with rfl | rfl | rfl | rfl
  · rfl
  · rfl
  · exact hv
  · rfl
theorem cells_four {w : World} {p : Nat} {a b c d : Value} {T : TypeId} {fz : Nat × Nat} (h : w.heap[p]? = some (.cells #[a, b, c, d] T fz)) : w.cell? ⟨p, 0, none⟩ = some a ∧ w.cell? ⟨p, 1, none⟩ = some b ∧ w.cell? ⟨p, 2, none⟩ = some c ∧ w.cell? ⟨p, 3, none⟩ = some d := by
  refine ⟨?_, ?_, ?_, ?_⟩ <;> (rw [Lib.cell_of_heap h]; rfl)
theorem new_cellsL (w : World) (cs : Array Value) (T : TypeId) : ∀ j u, cs.toList[j]? = some u → (w.alloc (.cells cs T)).cell? ((⟨w.heap.size, 0, none⟩ : Addr).add j) = some u := by
  intro j u hu
  have hadd : (⟨w.heap.size, 0, none⟩ : Addr).add j = ⟨w.heap.size, j, none⟩ := by unfold Addr.add; split <;> simp_all
  rw [hadd]
  have := alloc_new w (.cells cs T)
  simp only [World.cell?, this]
  simpa using hu
/-- The graph with one part more, as it lies behind add. -/
def Added (B : Nat) (G : Gr) (t : T) (v : Value) (E c g mb : Nat) (sl : Nat → Value) (nx : Nat → Nat) (w w' : World) : Prop :=
  (∃ pv, w'.heap[g]? = some (.cells #[pv, .map (some mb), .int .i64 (E : Int), .int .i64 (c : Int)] 95 (0, 0)) ∧ w'.ownsRow B 128 4 pv (G.N + 1) (rowN G.tr sl nx G.N ++ encN t v G.N)) ∧ KeepG w w' ∧ Below B w w'
theorem added_of {B : Nat} {G : Gr} {E c g mb : Nat} {pv pv' v : Value} {sl : Nat → Value} {nx : Nat → Nat} {t : T} {w V w1 : World} (ht : w.heap[g]? = some (.cells #[pv, .map (some mb), .int .i64 (E : Int), .int .i64 (c : Int)] 95 (0, 0))) (hg : B ≤ g) (hB : B ≤ w.heap.size) (hr : w.ownsRow B 128 4 pv G.N (rowN G.tr sl nx G.N)) (hV : Below w.heap.size w V)
    (ho : w1.ownsRow B 128 4 pv' (G.N + 1) (rowN G.tr sl nx G.N ++ encN t v G.N)) (hgr : V.grownBy w1 pv.ownBlock) : w1.heap[g]? = some (.cells #[pv, .map (some mb), .int .i64 (E : Int), .int .i64 (c : Int)] 95 (0, 0)) ∧ Added B G t v E c g mb sl nx w (w1.setCell ⟨g, 0, none⟩ pv') := by
  have hkV : ∀ (k : Nat) (o : Obj), w.heap[k]? = some o → V.heap[k]? = some o := fun k o hk => (hV.block k (Array.getElem?_eq_some_iff.1 hk).1).trans hk
  have hrV := row_kept hr fun k _ _ hk => hkV k _ hk
  have hg1 := row_other hrV hgr (hkV g _ ht) (by decide)
  have hoth : ∀ k, k ≠ g → (w1.setCell ⟨g, 0, none⟩ pv').heap[k]? = w1.heap[k]? := fun k hk => Below.heap_setCell _ ⟨g, 0, none⟩ _ k hk
  refine ⟨hg1, ⟨pv', ?_, row_kept ho fun k cs fz hk => (hoth k (by rintro rfl; rw [hg1] at hk; cases hk)).trans hk⟩, fun k o hk h1 h2 => ?_, ?_⟩
  · rw [blk_set hg1]; rfl
  · have hkg : k ≠ g := by rintro rfl; rw [ht] at hk; cases hk; exact h1 _ _ rfl
    refine (hoth k hkg).trans ((hgr.block k (Array.getElem?_eq_some_iff.1 (hkV k o hk)).1 fun e => ?_).trans (hkV k o hk))
    rcases hr.2 with ⟨rfl, _⟩ | ⟨q, cap, cur, rfl, _, hgb, _⟩
    · cases e
    · obtain rfl : k = q := by simpa [Value.ownBlock] using e
      rw [hk] at hgb; cases hgb; exact h2 _ _ rfl
  · have hb : Below B w w1 := (hV.mono hB).trans ⟨hgr.os, hgr.tape, hgr.output, hgr.size, fun k hk => hgr.block k (by have := hV.size; omega) fun e => by have := (hrV.lt k e.symm).1; omega⟩
    exact hb.setCell (p := ⟨g, 0, none⟩) hg _
set_option maxRecDepth 100000 in
set_option maxHeartbeats 4000000 in
theorem add_any {B : Nat} {G : Gr} {E c g mb x : Nat} {pv v : Value} {sl : Nat → Value} {nx : Nat → Nat} {t : T} {w : World} (ht : w.heap[g]? = some (.cells #[pv, .map (some mb), .int .i64 (E : Int), .int .i64 (c : Int)] 95 (0, 0))) (hg : B ≤ g) (hB : B ≤ w.heap.size) (hr : w.ownsRow B 128 4 pv G.N (rowN G.tr sl nx G.N)) (hN : G.N ≤ 1000000) (hv1 : v.oneCell' = true) :
    Calls Tryd.prog 79 #[gp g, .agg #[.int .i64 t.kind, .string t.name, v, .int .i64 (x : Int)]] w fun e w' => e = .returned (.int .i64 (G.N : Int)) ∧ Added B G t v E c g mb sl nx w w' := by
  obtain ⟨pa, pc, rfl⟩ := row_slice hr
  have hgl := (Array.getElem?_eq_some_iff.1 ht).1
  have y0 : w.cell? ⟨g, 0, none⟩ = some (.slice pa G.N pc) := by rw [Lib.cell_of_heap ht]; rfl
  obtain ⟨W1, hW1⟩ : ∃ W1, w.alloc (.cells #[.int .i64 t.kind, .string t.name, v, .int .i64 (x : Int)] 128) = W1 := ⟨_, rfl⟩
  have hb1 : Below w.heap.size w W1 := by rw [← hW1]; exact (Below.refl _ w).alloc (Nat.le_refl _) _
  have hx1 : W1.heap[w.heap.size]? = some (.cells #[.int .i64 t.kind, .string t.name, v, .int .i64 (x : Int)] 128 (0, 0)) := by rw [← hW1]; exact alloc_new w _
  have y1 : ∀ o : Obj, (w.alloc o).cell? ⟨g, 0, none⟩ = some (.slice pa G.N pc) := fun o => (((Below.refl w.heap.size w).alloc (Nat.le_refl _) o).cell (p := ⟨g, 0, none⟩) hgl).trans y0
  have HT := Lib.hid ht; have HR := Lib.hid hr
  obtain ⟨i0, hi0, hz0, hz1, hz2⟩ := info_parts Tryd.infoPart
  clear ht hr hb1 hx1 hW1
  go_enter Tryd.func79, Tryd.ntmps79
  go_wp2
  obtain ⟨V, hV⟩ : ∃ V, w.alloc (.cells #[.int .i64 t.kind, .string t.name, v, .int .i64 (G.N : Int)] 128) = V := ⟨_, rfl⟩
  have hbV : Below w.heap.size w V := by rw [← hV]; exact (Below.refl _ w).alloc (Nat.le_refl _) _
  have hbx : V.heap[w.heap.size]? = some (.cells #[.int .i64 t.kind, .string t.name, v, .int .i64 (G.N : Int)] 128 (0, 0)) := by rw [← hV]; exact alloc_new w _
  rw [hV]
  have z0 := (hbV.cell (p := ⟨g, 0, none⟩) hgl).trans y0
  obtain ⟨x0, x1, x2, x3⟩ := cells_four hbx
  have hlV := (Array.getElem?_eq_some_iff.1 hbx).1
  have hgV : g < V.heap.size := Nat.lt_of_lt_of_le hgl hbV.size
  have HBV := Lib.hid hbV; have HBX := Lib.hid hbx
  have al : Hid (∀ (q : Addr) (x : Value) (o : Obj), V.cell? q = some x → (V.alloc o).cell? q = some x) := Lib.hid fun q x o h => (((Below.refl V.heap.size V).alloc (Nat.le_refl _) o).cell (World.block_lt_of_cell? _ _ h)).trans h
  have HO := Lib.hid (show ∀ o : Obj, (V.drew.alloc o).ownsRow B 128 4 (.slice pa G.N pc) G.N (rowN G.tr sl nx G.N) from fun o => row_kept HR.out fun k cs fz hk => (Below.heap_alloc V.drew o k (Nat.lt_of_lt_of_le (Array.getElem?_eq_some_iff.1 hk).1 hbV.size)).trans ((hbV.block k (Array.getElem?_eq_some_iff.1 hk).1).trans hk))
  have HA := Lib.hid (fun (o : Obj) (w1 : World) (pv' : Value) h1 h2 => added_of (t := t) (v := v) (V := V.drew.alloc o) (w1 := w1) (pv' := pv') HT.out hg hB HR.out (hbV.drew.alloc hbV.size o) h1 h2)
  have HF := Lib.hid (show ∀ (o : Obj) (w1 : World), (V.drew.alloc o).grownBy w1 (Value.slice pa G.N pc).ownBlock → w1.heap[w.heap.size]? = some (.cells #[.int .i64 t.kind, .string t.name, v, .int .i64 (G.N : Int)] 128 (0, 0)) from fun o w1 hgr =>
    (hgr.block _ (Nat.lt_of_lt_of_le hlV (by simp)) fun e => by have := (HR.out.lt _ e.symm).2; omega).trans ((Below.heap_alloc V.drew o _ hlV).trans hbx))
  clear hV hbV hbx y0 y1
  go_region_law ((refine step_append_lies _ (by rfl) _ _ 93 (by rfl) B 128 i0 (.agg #[.int .i64 0, .string ⟨#[]⟩, .slice none 0 0, .int .i64 0]) 4 56 Tryd.underlying93 hi0 hz0 hz1 hz2 rfl (by decide) _ G.N (rowN G.tr sl nx G.N) (by rfl) (HO.out _) ⟨V.heap.size, 0, none⟩ 1 1 (encN t v G.N) (by rfl) rfl (new_cellsL _ _ _) (encN_one hv1) (by decide) (by unfold maxLen; omega) (by omega) (by simp; omega) (V.heap.size + 1) (by simp) ?_; intro g' cap' w1 hown1 hgr1 hat1 hlt1; obtain ⟨hb1, hA1⟩ := HA.out _ _ _ hown1 hgr1; have u0 : w1.cell? ⟨g, 0, none⟩ = some (.slice pa G.N pc) := (by rw [Lib.cell_of_heap hb1]; rfl); have u2 := Lib.frozen_of_heap hb1 0; have u3 : ∀ y : Value, (w1.setCell ⟨g, 0, none⟩ y).cell? ⟨w.heap.size, 3, none⟩ = some (.int .i64 (G.N : Int)) := (fun y => (World.cell?_of_block (a := ⟨w.heap.size, 3, none⟩) (Below.heap_setCell w1 ⟨g, 0, none⟩ y w.heap.size (by show w.heap.size ≠ g; omega))).trans (by rw [Lib.cell_of_heap (HF.out _ _ hgr1)]; rfl)); have HA1 := Lib.hid hA1; clear hA1 hown1 hgr1))
  all_goals
    go_wp2
    go_ret
    exact ⟨rfl, HA1.out⟩
end Go.Proofs.YtdcfemojkdoakaaDoor
/- The program's graph: putVar, put. -/
namespace Go.Proofs.YtdcfemojkdoakaaDoor
open Go.RowKit Go.Maps
attribute [local go_sem] Oper.semAt_some

/-- More parts were laid: what was there is as it was. -/
structure ExtG (G : Gr) (rt : Nat → Nat) (G' : Gr) (rt' : Nat → Nat) : Prop where
  n : G.N ≤ G'.N
  old : ∀ i, i < G.N → G'.tr i = G.tr i ∧ G'.ag i = G.ag i
  si : ∀ σ, SI G σ rt → SI G' σ rt'
  ac : Acyc G' rt' → Acyc G rt
theorem ExtG.refl (G : Gr) (rt : Nat → Nat) : ExtG G rt G rt := ⟨Nat.le_refl _, fun _ _ => ⟨rfl, rfl⟩, fun _ h => h, id⟩
theorem ExtG.trans {G1 G2 G3 : Gr} {r1 r2 r3 : Nat → Nat} (h : ExtG G1 r1 G2 r2) (k : ExtG G2 r2 G3 r3) : ExtG G1 r1 G3 r3 :=
  ⟨Nat.le_trans h.n k.n, fun _ hi => by have h1 := h.old _ hi; have h2 := k.old _ (Nat.lt_of_lt_of_le hi h.n); exact ⟨h2.1.trans h1.1, h2.2.trans h1.2⟩, fun σ h1 => k.si σ (h.si σ h1), fun h1 => h.ac (k.ac h1)⟩
theorem ExtG.snoc {G : Gr} {rt : Nat → Nat} (g : GI G rt) (t : T) (l : List Nat) (hv : t.isV = true → ∀ i, i < G.N → G.tr i ≠ t) : ExtG G rt (G.snoc t l) (upto rt G.N) :=
  ⟨Nat.le_succ _, fun _ hi => snoc_old G t l hi, fun _ h => h.snoc g hv, Acyc.snoc g⟩
/-- Rows of other kinds stay. -/
def KeepP (w w' : World) : Prop := ∀ (k : Nat) (cs : Array Value) (T : TypeId) (fz : Nat × Nat), w.heap[k]? = some (.cells cs T fz) → T ≠ 95 → T ≠ 128 → w'.heap[k]? = some (.cells cs T fz)
theorem KeepP.refl (w : World) : KeepP w w := fun _ _ _ _ h _ _ => h
theorem KeepP.trans {a b c : World} (h : KeepP a b) (k : KeepP b c) : KeepP a c := fun i cs T fz hi h1 h2 => k i cs T fz (h i cs T fz hi h1 h2) h1 h2
theorem KeepG.p {w w' : World} (h : KeepG w w') : KeepP w w' := fun k cs T fz hk h1 h2 => h k _ hk (fun cs' fz' e => by cases e; exact h1 rfl) (fun cs' fz' e => by cases e; exact h2 rfl)
theorem KeepP.of_below {w w' : World} (h : Below w.heap.size w w') : KeepP w w' := fun k _ _ _ hk _ _ => (h.block k (Array.getElem?_eq_some_iff.1 hk).1).trans hk
theorem KeepP.tys {w w' : World} (h : KeepP w w') : KeepT w w' := fun _ _ _ hk => h _ _ _ _ hk (by decide) (by decide)
theorem KeepP.ints {w w' : World} (h : KeepP w w') {v : Value} {l : List Nat} (hv : PlcAt w v l) : PlcAt w' v l := hv.keep fun _ _ _ hk => h _ _ _ _ hk (by decide) (by decide)
def snocV (sl : Nat → Value) (n : Nat) (v : Value) : Nat → Value := fun i => if i = n then v else sl i
/-- Behind add: the graph with one part more. -/
theorem GM.added {B : Nat} {G : Gr} {rt : Nat → Nat} {E c g mb : Nat} {sl : Nat → Value} {nx hh : Nat → Nat} {t : T} {l : List Nat} {v : Value} {w w' : World} (hg : B ≤ g) (W : Way G rt nx hh) (hi : ∀ i, i < G.N → PlcAt w (sl i) (G.ag i)) (hv : PlcAt w v l) (h : Added B G t v E c g mb sl nx w w') {w2 : World} (hw : ∀ (k : Nat) (cs : Array Value) (T : TypeId) (fz : Nat × Nat), w'.heap[k]? = some (.cells cs T fz) → w2.heap[k]? = some (.cells cs T fz)) (hm : ∃ f, B ≤ mb ∧ MapV mb (G.N + 1) f w2 ∧ PlV (G.snoc t l) f) :
    ∃ pv, GM B (G.snoc t l) (upto rt G.N) E c g mb pv (snocV sl G.N v) w2 := by
  obtain ⟨⟨pv, h1, h2⟩, h3, h4⟩ := h
  refine ⟨pv, hg, hw _ _ _ _ h1, ⟨upto nx G.N, hh, W.snoc t l, ?_, fun i hi2 => ?_⟩, hm⟩
  · have e : rowN (G.snoc t l).tr (snocV sl G.N v) (upto nx G.N) (G.snoc t l).N = rowN G.tr sl nx G.N ++ encN t v G.N := by
      show rowN _ _ _ (G.N + 1) = _
      rw [rowN, (snoc_new G t l).1, upto_new, rowN_congr (tr' := G.tr) (sl' := sl) (nx' := nx) fun i hi => ⟨(snoc_old G t l hi).1, by simp [snocV, show i ≠ G.N by omega], upto_old nx hi⟩]
      simp [snocV]
    rw [e]
    exact row_kept h2 fun k cs fz hk => hw k cs _ fz hk
  · have hk2 : ∀ {v : Value} {l : List Nat}, PlcAt w v l → PlcAt w2 v l := fun hv => (h3.ints hv).keep fun k cs fz hk => hw k cs _ fz hk
    rcases snoc_cases hi2 with h1 | rfl
    · rw [(snoc_old G t l h1).2]
      have : snocV sl G.N v i = sl i := by simp [snocV, show i ≠ G.N by omega]
      rw [this]; exact hk2 (hi i h1)
    · rw [(snoc_new G t l).2]
      have : snocV sl G.N v G.N = v := by simp [snocV]
      rw [this]; exact hk2 hv
/-- Rows of arguments are as they were, or new. -/
def NewSl (G : Gr) (sl : Nat → Value) (M : Nat) (G' : Gr) (sl' : Nat → Value) : Prop := ∀ k, k < G'.N → (k < G.N ∧ sl' k = sl k) ∨ (G.N ≤ k ∧ ∀ b, (sl' k).ownBlock = some b → M ≤ b)
theorem NewSl.refl (G : Gr) (sl : Nat → Value) (M : Nat) : NewSl G sl M G sl := fun _ hk => .inl ⟨hk, rfl⟩
theorem NewSl.trans {G1 G2 G3 : Gr} {s1 s2 s3 : Nat → Value} {M M' : Nat} (h : NewSl G1 s1 M G2 s2) (k : NewSl G2 s2 M' G3 s3) (hM : M ≤ M') (hN : G1.N ≤ G2.N) : NewSl G1 s1 M G3 s3 := fun i hi => by
  rcases k i hi with ⟨h1, e1⟩ | ⟨h1, h2⟩
  · rcases h i h1 with ⟨h3, e3⟩ | ⟨h3, h4⟩
    · exact .inl ⟨h3, e1.trans e3⟩
    · exact .inr ⟨h3, fun b hb => h4 b (by rw [← e1]; exact hb)⟩
  · exact .inr ⟨by omega, fun b hb => Nat.le_trans hM (h2 b hb)⟩
theorem NewSl.snoc {G : Gr} {sl : Nat → Value} {M : Nat} {t : T} {l : List Nat} {v : Value} (hv : ∀ b, v.ownBlock = some b → M ≤ b) : NewSl G sl M (G.snoc t l) (snocV sl G.N v) := fun k hk => by
  rcases snoc_cases hk with h1 | rfl
  · exact .inl ⟨h1, by simp [snocV, show k ≠ G.N by omega]⟩
  · exact .inr ⟨Nat.le_refl _, fun b hb => hv b (by simpa [snocV] using hb)⟩
/-- What put tells. -/
def PutR (B : Nat) (G : Gr) (rt : Nat → Nat) (E c g mb : Nat) (sl : Nat → Value) (t : T) (w : World) (e : Ending) (w' : World) : Prop :=
  ∃ G' rt' E' pv' sl' r, (e = .returned (.int .i64 (r : Nat)) ∧ r < G'.N ∧ G'.tr r = t) ∧ (ExtG G rt G' rt' ∧ GI G' rt' ∧ (∀ i, i < G'.N → (G'.ag i).length ≤ E') ∧ G'.N ≤ G.N + tsize t ∧ E ≤ E' ∧ E' + 1 ≤ E + tsize t ∧ NewSl G sl w.heap.size G' sl' ∧ ∀ i, G.N ≤ i → i < G'.N → ∀ x ∈ vs (G'.tr i), x ∈ vs t) ∧ GM B G' rt' E' c g mb pv' sl' w' ∧ KeepP w w' ∧ Below B w w'
theorem plv_con {G : Gr} {t : T} {l : List Nat} {f : ByteArray → Option Nat} (h : PlV G f) (hv : t.isV = false) : PlV (G.snoc t l) f := by
  intro n
  refine ⟨fun i e => ?_, fun e i hi => ?_⟩
  · obtain ⟨h1, h2⟩ := (h n).1 i e
    exact ⟨Nat.lt_succ_of_lt h1, (snoc_old G t l h1).1.trans h2⟩
  · rcases snoc_cases hi with h1 | rfl
    · rw [(snoc_old G t l h1).1]; exact (h n).2 e i h1
    · rw [(snoc_new G t l).1]; intro e2; rw [e2] at hv; cases hv
theorem plv_var {G : Gr} {n : ByteArray} {f f' : ByteArray → Option Nat} (h : PlV G f) (hf : ∀ k, f' k = if k = n then some G.N else f k) : PlV (G.snoc (.var n) []) f' := by
  intro k
  rw [hf]
  refine ⟨fun i e => ?_, fun e i hi => ?_⟩
  · by_cases hk : k = n
    · subst hk
      rw [if_pos rfl] at e
      cases e
      exact ⟨Nat.lt_succ_self _, (snoc_new G _ _).1⟩
    · rw [if_neg hk] at e
      obtain ⟨h1, h2⟩ := (h k).1 i e
      exact ⟨Nat.lt_succ_of_lt h1, (snoc_old G _ _ h1).1.trans h2⟩
  · by_cases hk : k = n
    · rw [if_pos hk] at e; cases e
    · rw [if_neg hk] at e
      rcases snoc_cases hi with h1 | rfl
      · rw [(snoc_old G _ _ h1).1]; exact (h k).2 e i h1
      · rw [(snoc_new G _ _).1]; intro e2; cases e2; exact hk rfl
set_option maxRecDepth 100000 in
set_option maxHeartbeats 4000000 in
theorem putVar_any {B : Nat} {G : Gr} {rt : Nat → Nat} {E c g mb : Nat} {pv : Value} {sl : Nat → Value} {n : ByteArray} {w : World} (h : GM B G rt E c g mb pv sl w) (gi : GI G rt) (hE : ∀ i, i < G.N → (G.ag i).length ≤ E) (hB : B ≤ w.heap.size) (hN : G.N + 1 ≤ 1000000) (hn : n.size ≤ 1000) :
    Calls Tryd.prog 78 #[gp g, .string n] w fun e w' => PutR B G rt E c g mb sl (.var n) w e w' := by
  obtain ⟨y0, y1, _, _, _⟩ := h.cells
  have hgl := h.lt
  have H := Lib.hid h
  obtain ⟨hbg, htop, ⟨nx, hh, hW, hr, hs⟩, ⟨f, hmb, hM, hP⟩⟩ := h
  have hlk := hM.look n (by unfold maxLen; omega)
  cases hf : f n with
  | some i =>
    rw [hf] at hlk
    simp only [Option.getD_some, Option.isSome_some] at hlk
    obtain ⟨h1, h2⟩ := (hP n).1 i hf
    have HR := Lib.hid (⟨G, rt, E, pv, sl, i, ⟨rfl, h1, h2⟩, ⟨ExtG.refl G rt, gi, hE, by omega, Nat.le_refl _, by simp [tsize], NewSl.refl _ _ _, fun i h1 h2 => absurd h2 (Nat.not_lt.2 h1)⟩, H.out, KeepP.refl w, Below.refl B w⟩ : PutR B G rt E c g mb sl (.var n) w (.returned (.int .i64 (i : Nat))) w)
    clear htop hr hs hM hP gi hE h1 h2
    go_enter Tryd.func78, Tryd.ntmps78
    go_wp2
    go_ret
    exact HR.out
  | none =>
    rw [hf] at hlk
    simp only [Option.getD_none, Option.isSome_none] at hlk
    have hnv : (T.var n).isV = true → ∀ i, i < G.N → G.tr i ≠ .var n := fun _ i hi => (hP n).2 hf i hi
    have hok : (G.snoc (.var n) []).OK := gi.ok.snoc (by simp [T.kids]) (fun x hx => nomatch hx) hnv (by simp [T.kind])
    have HA : Hid (Calls Tryd.prog 79 #[gp g, .agg #[.int .i64 1, .string n, .slice none 0 0, .int .i64 0]] w fun e w' => e = .returned (.int .i64 (G.N : Int)) ∧ Added B G (.var n) (.slice none 0 0) E c g mb sl nx w w') := Lib.hid (add_any (t := .var n) (x := 0) htop hbg hB hr (by omega) rfl)
    have HX := Lib.hid (⟨⟨hW, hs⟩, ⟨hM, hP⟩, gi, hE, hok, hnv⟩ : (Way G rt nx hh ∧ ∀ i, i < G.N → PlcAt w (sl i) (G.ag i)) ∧ (MapV mb G.N f w ∧ PlV G f) ∧ GI G rt ∧ (∀ i, i < G.N → (G.ag i).length ≤ E) ∧ (G.snoc (.var n) []).OK ∧ ((T.var n).isV = true → ∀ i, i < G.N → G.tr i ≠ .var n))
    clear htop hr hs hM hP gi hE hW hok hnv hf
    go_enter Tryd.func78, Tryd.ntmps78
    go_wp2_with (go_at_call 79; refine HA.out.mono ?_)
    rintro e w5 ⟨rfl, hA5⟩
    have hA5' := hA5
    obtain ⟨⟨pv5, t5, r5⟩, k5, b5⟩ := hA5
    have z1 : w5.cell? ⟨g, 1, none⟩ = some (.map (some mb)) := by rw [Lib.cell_of_heap t5]; rfl
    have hg5 := (Array.getElem?_eq_some_iff.1 t5).1
    have hM5 := k5.map HX.out.2.1.1
    obtain ⟨w6, hup, hM6, hg6⟩ := hM5.upd (g := fun k => if k = n then some G.N else f k) (by unfold maxLen; omega) n (by unfold maxLen; omega) G.N (by omega) (fun k => rfl)
    have hw : ∀ (k : Nat) (cs : Array Value) (T : TypeId) (fz : Nat × Nat), w5.heap[k]? = some (.cells cs T fz) → w6.heap[k]? = some (.cells cs T fz) := fun k cs T fz hk => (hg6.block k (Array.getElem?_eq_some_iff.1 hk).1 fun e => by cases e; exact hM5.ne hk rfl).trans hk
    have hb6 : Below B w w6 := b5.trans ⟨hg6.os, hg6.tape, hg6.output, hg6.size, fun k hk => hg6.block k (by have := b5.size; omega) fun e => by cases e; omega⟩
    obtain ⟨pv6, hgm6⟩ := GM.added (t := .var n) (l := []) hbg HX.out.1.1 HX.out.1.2 (.inl ⟨rfl, none, 0, rfl⟩) hA5' hw ⟨_, hmb, hM6, plv_var HX.out.2.1.2 fun k => rfl⟩
    have hx3 := HX.out.2.2.2.1
    have HR := Lib.hid (⟨G.snoc (.var n) [], upto rt G.N, E, pv6, _, G.N, ⟨rfl, Nat.lt_succ_self _, (snoc_new G _ _).1⟩, ⟨ExtG.snoc HX.out.2.2.1 _ _ HX.out.2.2.2.2.2, HX.out.2.2.1.snoc HX.out.2.2.2.2.1, fun i hi => by
      rcases snoc_cases hi with h1 | rfl
      · rw [(snoc_old G _ _ h1).2]; exact hx3 i h1
      · rw [(snoc_new G _ _).2]; exact Nat.zero_le _, by show G.N + 1 ≤ _; simp [tsize], Nat.le_refl _, by simp [tsize], NewSl.snoc fun b hb => (by cases hb), fun i h1 h2 x hx => by
      obtain rfl : i = G.N := by have : i < G.N + 1 := h2; omega
      rw [(snoc_new G _ _).1] at hx; exact hx⟩, hgm6, k5.p.trans fun k cs T fz hk _ _ => hw k cs T fz hk, hb6⟩ : PutR B G rt E c g mb sl (.var n) w (.returned (.int .i64 (G.N : Nat))) w6)
    clear hA5' t5 r5 k5 b5 hM5 hM6 hg6 hw hb6 hgm6 hx3
    go_wp2
    go_ret
    exact HR.out
/-- So many arguments more. -/
theorem GM.edge {B : Nat} {G : Gr} {rt : Nat → Nat} {E E' c g mb : Nat} {pv : Value} {sl : Nat → Value} {w : World} (h : GM B G rt E c g mb pv sl w) : GM B G rt E' c g mb pv sl (w.setCell ⟨g, 2, none⟩ (.int .i64 (E' : Int))) ∧ KeepG w (w.setCell ⟨g, 2, none⟩ (.int .i64 (E' : Int))) := by
  have ho : ∀ k, k ≠ g → (w.setCell ⟨g, 2, none⟩ (.int .i64 (E' : Int))).heap[k]? = w.heap[k]? := fun k hk => Below.heap_setCell _ ⟨g, 2, none⟩ _ k hk
  obtain ⟨h1, h2, ⟨nx, hh, h3, h4, h5⟩, ⟨f, h6, h7, h8⟩⟩ := h
  have hne : ∀ (k : Nat) (o : Obj), w.heap[k]? = some o → (∀ cs fz, o ≠ .cells cs 95 fz) → (w.setCell ⟨g, 2, none⟩ (.int .i64 (E' : Int))).heap[k]? = some o := fun k o hk hT => (ho k (by rintro rfl; rw [h2] at hk; cases hk; exact hT _ _ rfl)).trans hk
  refine ⟨⟨h1, ?_, ⟨nx, hh, h3, row_kept h4 fun _ _ _ hk => hne _ _ hk (by simp), fun i hi => (h5 i hi).keep fun _ _ _ hk => hne _ _ hk (by simp)⟩, ⟨f, h6, ?_, h8⟩⟩, fun k o hk h1 _ => hne k o hk h1⟩
  · rw [blk_set h2]; rfl
  · obtain ⟨D, hD, ⟨es, clock, hm, r⟩, h2⟩ := h7
    exact ⟨D, hD, ⟨es, clock, hne _ _ hm (by simp), r⟩, h2⟩
def PutOK (t : T) : Prop := ∀ (B : Nat) (G : Gr) (rt : Nat → Nat) (E c g mb : Nat) (pv : Value) (sl : Nat → Value) (w : World) (a : Option Addr) (ca : Nat), GM B G rt E c g mb pv sl w → GI G rt → (∀ i, i < G.N → (G.ag i).length ≤ E) → B ≤ w.heap.size → G.N + tsize t ≤ 1000000 → E + tsize t ≤ 1000000 → TysAt w (.slice a t.kids.length ca) t.kids →
    Calls Tryd.prog 48 #[gp g, tyV t (.slice a t.kids.length ca)] w fun e w' => PutR B G rt E c g mb sl t w e w'
set_option maxRecDepth 100000 in
set_option maxHeartbeats 4000000 in
theorem put_var (n : ByteArray) (hn : n.size ≤ 1000) : PutOK (.var n) := by
  intro B G rt E c g mb pv sl w a ca h gi hE hB hN hE2 hT
  have hb := (Below.refl _ w).alloc (Nat.le_refl _) (.cells #[.int .i64 1, .string n, .slice a 0 ca] 29)
  have HV := Lib.hid (putVar_any (n := n) (h.keep hb) gi hE (Nat.le_trans hB hb.size) (by simp [tsize] at hN; omega) hn)
  have HB := Lib.hid hb
  obtain ⟨z0, z1, z2⟩ := three_cells (alloc_new w (.cells #[.int .i64 1, .string n, .slice a 0 ca] 29))
  clear h gi hE hT hb
  simp only [tyV, T.kind, T.name, T.kids, List.length_nil]
  go_enter Tryd.func48, Tryd.ntmps48
  go_wp2_with (go_at_call 78; refine HV.out.mono ?_)
  rintro e w5 ⟨G', rt', E', pv', sl', r, ⟨rfl, h1, h2⟩, h3, h4, h5, h6⟩
  have HR := Lib.hid (⟨G', rt', E', pv', sl', r, ⟨rfl, h1, h2⟩, ⟨h3.1, h3.2.1, h3.2.2.1, h3.2.2.2.1, h3.2.2.2.2.1, h3.2.2.2.2.2.1, (NewSl.refl G sl w.heap.size).trans h3.2.2.2.2.2.2.1 HB.out.size (Nat.le_refl _), h3.2.2.2.2.2.2.2⟩, h4, (KeepP.of_below HB.out).trans h5, (HB.out.mono hB).trans h6⟩ : PutR B G rt E c g mb sl (.var n) w (.returned (.int .i64 (r : Nat))) w5)
  clear h1 h2 h3 h4 h5 h6
  go_wp2
  go_ret
  exact HR.out
/-- A store into a row of numbers that is none of the graph's. -/
theorem GM.other {B : Nat} {G : Gr} {rt : Nat → Nat} {E c g mb ab i : Nat} {pv x : Value} {sl : Nat → Value} {w : World} (h : GM B G rt E c g mb pv sl w) {cs : Array Value} {fz : Nat × Nat} (ha : w.heap[ab]? = some (.cells cs 3 fz)) (hd : ∀ k, k < G.N → G.ag k ≠ [] → (sl k).ownBlock ≠ some ab) : GM B G rt E c g mb pv sl (w.setCell ⟨ab, i, none⟩ x) := by
  have ho : ∀ k, k ≠ ab → (w.setCell ⟨ab, i, none⟩ x).heap[k]? = w.heap[k]? := fun k hk => Below.heap_setCell _ ⟨ab, i, none⟩ _ k hk
  have hne : ∀ (k : Nat) (o : Obj), w.heap[k]? = some o → (∀ cs fz, o ≠ .cells cs 3 fz) → (w.setCell ⟨ab, i, none⟩ x).heap[k]? = some o := fun k o hk hT => (ho k (by rintro rfl; rw [ha] at hk; cases hk; exact hT _ _ rfl)).trans hk
  obtain ⟨h1, h2, ⟨nx, hh, h3, h4, h5⟩, ⟨f, h6, h7, h8⟩⟩ := h
  refine ⟨h1, hne _ _ h2 (by simp), ⟨nx, hh, h3, row_kept h4 fun _ _ _ hk => hne _ _ hk (by simp), fun k hk => ?_⟩, ⟨f, h6, ?_, h8⟩⟩
  · rcases h5 k hk with e | ⟨q, cap, cs', fz', ev, hq, r⟩
    · exact .inl e
    · by_cases hag : G.ag k = []
      · left
        refine ⟨hag, some ⟨q, 0, none⟩, cap, ?_⟩
        rw [ev, hag]; rfl
      · refine .inr ⟨q, cap, cs', fz', ev, (ho q ?_).trans hq, r⟩
        rintro rfl
        exact hd k hk hag (by rw [ev]; rfl)
  · obtain ⟨D, hD, ⟨es, clock, hm, r⟩, h2⟩ := h7
    exact ⟨D, hD, ⟨es, clock, hne _ _ hm (by simp), r⟩, h2⟩
theorem GM.lowSl {B : Nat} {G : Gr} {rt : Nat → Nat} {E c g mb : Nat} {pv : Value} {sl : Nat → Value} {w : World} (h : GM B G rt E c g mb pv sl w) : ∀ k, k < G.N → G.ag k ≠ [] → ∀ b, (sl k).ownBlock = some b → b < w.heap.size := by
  obtain ⟨_, _, ⟨_, _, _, _, h5⟩, _⟩ := h
  intro k hk hag b hb
  rcases h5 k hk with ⟨e, _⟩ | ⟨q, cap, cs, fz, ev, hq, _⟩
  · exact (hag e).elim
  · rw [ev] at hb
    have : q = b := by simpa [Value.ownBlock] using hb
    rw [← this]; exact (Array.getElem?_eq_some_iff.1 hq).1
/-- Where put stands among a type's arguments. -/
def PutI (B : Nat) (G : Gr) (rt : Nat → Nat) (E c g mb : Nat) (sl : Nat → Value) (t : T) (v : Value) (w : World) (ab i : Nat) (wr : World) : Prop :=
  ∃ G' rt' E' pv' sl' Wf, GM B G' rt' E' c g mb pv' sl' wr ∧ (ExtG G rt G' rt' ∧ GI G' rt' ∧ (∀ i, i < G'.N → (G'.ag i).length ≤ E') ∧ G'.N ≤ G.N + tsizes (t.kids.take i) ∧ E ≤ E' ∧ E' + i ≤ E + tsizes (t.kids.take i)) ∧
    (NewSl G sl w.heap.size G' sl' ∧ (∀ k, k < G'.N → G'.ag k ≠ [] → (sl' k).ownBlock ≠ some ab) ∧ ∀ i, G.N ≤ i → i < G'.N → ∀ x ∈ vs (G'.tr i), ∃ k ∈ t.kids, x ∈ vs k) ∧
    (OwnI ab (.slice (some ⟨ab, 0, none⟩) t.kids.length t.kids.length) ((List.range t.kids.length).map Wf) wr ∧ ∀ k (hk : k < t.kids.length), k < i → Wf k < G'.N ∧ G'.tr (Wf k) = t.kids[k]) ∧
    KeepP w wr ∧ Below B w wr ∧ wr.heap[w.heap.size]? = some (.cells #[.int .i64 t.kind, .string t.name, v] 29 (0, 0))
theorem OwnI.blk {B q cap : Nat} {n : Nat} {l : List Nat} {w : World} (h : OwnI B (.slice (some ⟨q, 0, none⟩) n cap) l w) : ∃ cs, w.heap[q]? = some (.cells cs 3 (0, 0)) := by
  rcases h.2 with ⟨e, _⟩ | ⟨_, _, cur, e, _, hb, _⟩
  · cases e
  · cases e; exact ⟨cur, hb⟩
theorem OwnI.freeAt {B q cap n : Nat} {W : Nat → Nat} {w : World} (h : OwnI B (.slice (some ⟨q, 0, none⟩) n cap) ((List.range n).map W) w) (r : Nat) : w.frozen? ⟨q, r, none⟩ = false := by
  have hl : ((List.range n).map W).length = n := by simp
  exact World.ownsRow.frozenAt (n := n) (by unfold OwnI at h; rw [hl] at h; exact h) r
theorem OwnI.some {B q cap n : Nat} {W : Nat → Nat} {w : World} (h : OwnI B (.slice (some ⟨q, 0, none⟩) n cap) ((List.range n).map W) w) : ∃ x : Nat → Nat, ∀ r, r < n → w.cell? ⟨q, r, none⟩ = some (.int .i64 (x r : Nat)) := by
  have hl : ((List.range n).map W).length = n := by simp
  refine ⟨W, fun r hr => ?_⟩
  rw [World.ownsRow.cellAt (n := n) (by unfold OwnI at h; rw [hl] at h; exact h) r (by omega)]
  simp [intsV, hr]
/-- One argument more. -/
theorem PutI.next {B : Nat} {G : Gr} {rt : Nat → Nat} {E c g mb i r : Nat} {sl : Nat → Value} {t : T} {v : Value} {w wr w5 : World} {ab : Nat} (hab : w.heap.size < ab) (hB : B ≤ w.heap.size) (hi : i < t.kids.length)
    {G1 G2 : Gr} {r1 r2 : Nat → Nat} {E1 E2 : Nat} {pv2 : Value} {s1 s2 : Nat → Value} {Wf : Nat → Nat} {W1 : World}
    (x1 : ExtG G rt G1 r1 ∧ G1.N ≤ G.N + tsizes (t.kids.take i) ∧ E ≤ E1 ∧ E1 + i ≤ E + tsizes (t.kids.take i)) (x2 : NewSl G sl w.heap.size G1 s1 ∧ (∀ k, k < G1.N → G1.ag k ≠ [] → (s1 k).ownBlock ≠ some ab) ∧ ∀ i, G.N ≤ i → i < G1.N → ∀ x ∈ vs (G1.tr i), ∃ k ∈ t.kids, x ∈ vs k)
    (x3 : OwnI ab (.slice (some ⟨ab, 0, none⟩) t.kids.length t.kids.length) ((List.range t.kids.length).map Wf) wr ∧ ∀ k (hk : k < t.kids.length), k < i → Wf k < G1.N ∧ G1.tr (Wf k) = t.kids[k]) (x4 : KeepP w wr) (x5 : Below B w wr) (x6 : wr.heap[w.heap.size]? = some (.cells #[.int .i64 t.kind, .string t.name, v] 29 (0, 0)))
    (hW : Below wr.heap.size wr W1) (hr : r < G2.N ∧ G2.tr r = t.kids[i]) (y1 : ExtG G1 r1 G2 r2 ∧ GI G2 r2 ∧ (∀ i, i < G2.N → (G2.ag i).length ≤ E2) ∧ G2.N ≤ G1.N + tsize t.kids[i] ∧ E1 ≤ E2 ∧ E2 + 1 ≤ E1 + tsize t.kids[i] ∧ NewSl G1 s1 W1.heap.size G2 s2 ∧ ∀ j, G1.N ≤ j → j < G2.N → ∀ x ∈ vs (G2.tr j), x ∈ vs t.kids[i]) (y2 : GM B G2 r2 E2 c g mb pv2 s2 w5) (y3 : KeepP W1 w5) (y4 : Below B W1 w5) :
    PutI B G rt E c g mb sl t v w ab (i + 1) (w5.setCell ⟨ab, i, none⟩ (.int .i64 (r : Int))) := by
  obtain ⟨e1, n1, l1, b1⟩ := x1
  obtain ⟨e2, gi2, h2, n2, l2, b2, s12, v12⟩ := y1
  have ht : tsizes (t.kids.take (i + 1)) = tsizes (t.kids.take i) + tsize t.kids[i] := by
    rw [List.take_succ_eq_append_getElem hi]
    have : ∀ l m : List T, tsizes (l ++ m) = tsizes l + tsizes m := by
      intro l m
      induction l with
      | nil => simp [tsizes]
      | cons a l ih => rw [List.cons_append, tsizes, tsizes, ih]; omega
    rw [this]; simp [tsizes]
  have hk1 : KeepP wr w5 := (KeepP.of_below hW).trans y3
  have hO : OwnI ab (.slice (some ⟨ab, 0, none⟩) t.kids.length t.kids.length) ((List.range t.kids.length).map Wf) w5 := row_kept x3.1 fun k cs fz hk => hk1 k cs _ fz hk (by decide) (by decide)
  obtain ⟨cs, hcs⟩ := hO.blk
  obtain ⟨cs0, hcs0⟩ := x3.1.blk
  have habr : ab < wr.heap.size := (Array.getElem?_eq_some_iff.1 hcs0).1
  have hsz : ab < W1.heap.size := Nat.lt_of_lt_of_le habr hW.size
  have hdis : ∀ k, k < G2.N → G2.ag k ≠ [] → (s2 k).ownBlock ≠ some ab := fun k hk hag => by
    rcases s12 k hk with ⟨h, e⟩ | ⟨_, h⟩
    · rw [e]; exact x2.2.1 k h (by rw [← (e2.old k h).2]; exact hag)
    · intro e; have := h ab e; omega
  have hsw : w.heap.size ≤ W1.heap.size := by omega
  have ho : ∀ k, k ≠ ab → (w5.setCell ⟨ab, i, none⟩ (.int .i64 (r : Int))).heap[k]? = w5.heap[k]? := fun k hk => Below.heap_setCell _ ⟨ab, i, none⟩ _ k hk
  refine ⟨G2, r2, E2, pv2, s2, fun k => if k = i then r else Wf k, y2.other hcs hdis, ⟨e1.trans e2, gi2, h2, by omega, by omega, by omega⟩, ⟨x2.1.trans s12 hsw e1.n, hdis, fun j hj1 hj2 x hx => ?_⟩, ⟨hO.set hi, fun k hk hki => ?_⟩, ?_, ?_, ?_⟩
  · by_cases hj : j < G1.N
    · rw [(e2.old j hj).1] at hx; exact x2.2.2 j hj1 hj x hx
    · exact ⟨_, List.getElem_mem hi, v12 j (by omega) hj2 x hx⟩
  · by_cases e : k = i
    · subst e; simp only [if_true]; exact hr
    · simp only [if_neg e]
      obtain ⟨q1, q2⟩ := x3.2 k hk (by omega)
      exact ⟨Nat.lt_of_lt_of_le q1 e2.n, (e2.old _ q1).1.trans q2⟩
  · intro k cs T fz hk h1 h2
    exact (ho k (by have := (Array.getElem?_eq_some_iff.1 hk).1; omega)).trans ((x4.trans hk1) k cs T fz hk h1 h2)
  · exact (x5.trans ((hW.mono (by omega)).trans y4)).setCell (p := ⟨ab, i, none⟩) (by show B ≤ ab; omega) _
  · exact (ho _ (by omega)).trans (hk1 _ _ _ _ x6 (by decide) (by decide))
end Go.Proofs.YtdcfemojkdoakaaDoor
/- Two types as one: what is found as a list of pairs. -/
namespace Go.Proofs.YtdcfemojkdoakaaDoor

theorem app_sub (d : List PR) : ∀ t, app d t = sub (fun n => ty n d) t := by
  refine T.kidsInd fun t ih => ?_
  cases hv : t.isV with
  | true => rw [isV_var hv]; rfl
  | false =>
    have hn : ∀ n, t ≠ .var n := fun n e => by rw [e] at hv; cases hv
    obtain ⟨a1, a2, a3⟩ := app_parts d t hn
    obtain ⟨b1, b2, b3, _⟩ := sub_parts (fun n => ty n d) t hv
    refine T.ext3 (a1.trans b1.symm) (a2.trans b2.symm) ?_
    rw [a3, b3]
    exact List.map_congr_left ih
theorem ty_none {n : ByteArray} {d : List PR} (h : lk n d = none) : ty n d = .var n := by unfold ty; rw [h]; rfl
theorem ty_some {n : ByteArray} {d : List PR} {x : PR} (h : lk n d = some x) : ty n d = x.t := by unfold ty; rw [h]; rfl
theorem ty_one (n : ByteArray) (p : PR) : ty n [p] = one p.n p.t n := by
  by_cases h : n = p.n
  · subst h
    rw [one_at]
    exact ty_some (by rw [lk_cons, if_pos rfl])
  · rw [one_ne _ h]
    exact ty_none (by rw [lk_cons, if_neg (fun e => h e.symm)]; rfl)
/-- The document's Then. -/
noncomputable def thenR (s u : List PR) : List PR := (s.map fun x => { x with t := app u x.t }) ++ u.filter fun y => (lk y.n s).isNone
theorem lk_filter {n : ByteArray} {s : List PR} (h : lk n s = none) : ∀ u : List PR, lk n (u.filter fun y => (lk y.n s).isNone) = lk n u
  | [] => rfl
  | y :: u => by
    rw [List.filter_cons]
    by_cases e : y.n = n
    · rw [if_pos (by rw [e, h]; rfl), lk_cons, lk_cons, if_pos e, if_pos e]
    · rw [lk_cons n y u, if_neg e]
      split
      · rw [lk_cons, if_neg e]; exact lk_filter h u
      · exact lk_filter h u
theorem thenR_ty (s u : List PR) (n : ByteArray) : ty n (thenR s u) = app u (ty n s) := by
  unfold thenR
  rw [ty_append, lk_map (app u)]
  cases h : lk n s with
  | some x =>
    rw [if_pos (by rfl), ty_some h]
    exact ty_some (x := { x with t := app u x.t }) (by rw [lk_map (app u), h]; rfl)
  | none =>
    rw [if_neg (by simp), ty_none h]
    show ty n _ = ty n u
    unfold ty; rw [lk_filter h]
/-- Pairs that say what was found. -/
def IsSg (d : List PR) (σ : Sg) : Prop := ∀ n, ty n d = σ n
theorem IsSg.app {d : List PR} {σ : Sg} (h : IsSg d σ) (t : T) : app d t = sub σ t := by rw [app_sub]; exact sub_ext t fun n _ => h n
theorem isSg_nil : IsSg [] T.var := fun _ => rfl
theorem IsSg.bind {d e : List PR} {σ : Sg} {p : PR} (h : IsSg d σ) (he : ∀ n, ty n e = Go.Proofs.YtdcfemojkdoakaaDoor.app [p] (ty n d)) : IsSg e (fun n => sub (one p.n p.t) (σ n)) := by
  intro n
  rw [he, app_sub, h n]
  exact sub_ext _ fun m _ => ty_one m p
end Go.Proofs.YtdcfemojkdoakaaDoor
/- types.Vars: the free variables of a row of types. -/
namespace Go.Proofs.YtdcfemojkdoakaaDoor
open Go.RowKit Go.Maps
attribute [local go_sem] Oper.semAt_some

theorem Nm.name {t : T} (h : Nm t) : t.name.size ≤ 1000 := by cases h; assumption
theorem Nm.kid {t k : T} (h : Nm t) (hk : k ∈ t.kids) : Nm k := by cases h with | mk _ _ h => exact h k hk

theorem look_var (n : ByteArray) (hn : n.size ≤ 1000) : LookOK (.var n) := by
  intro B p M K bd out a c w h ht hK hbd ho
  have hB : B ≤ w.heap.size := Nat.le_trans h.bp (Nat.le_of_lt h.lt.1)
  have hz : tsize (.var n) = 1 := by simp [tsize]
  rw [hz] at hK hbd ho
  by_cases hc : cnt bd out n = 0
  · have hno := cnt_zero.1 hc
    have e : fv bd out (.var n) = out ++ [n] := by rw [fv, if_neg hno]
    rw [e]
    refine (look_told (.var n) rfl rfl hn B p M K (cnt bd out) (cnt bd (out ++ [n])) out a c w hB h hc (by omega) (by omega) (fun m => ?_)).mono fun e w' ⟨h1, h2, h3, h4⟩ => ⟨h1, h2.mono (by omega), h3, h4⟩
    rw [cnt_told (fun hx => hno (.inr hx)), hc]
    rfl
  · have hyes : n ∈ bd ∨ n ∈ out := Classical.byContradiction fun hx => hc (cnt_zero.2 hx)
    have e : fv bd out (.var n) = out := by rw [fv, if_pos hyes]
    rw [e]
    exact (look_seen (.var n) rfl rfl hn B p M K (cnt bd out) out a c w hB h hc).mono fun e w' ⟨h1, h2, h3, h4⟩ => ⟨h1, h2.mono (by omega), h3, h4⟩
theorem look_ok (t : T) (hn : Nm t) : LookOK t := by
  have H : ∀ k ∈ t.kids, LookOK k := fun k hk => look_ok k (hn.kid hk)
  have hz := tsize_eq t
  cases t with
  | var n => exact look_var n hn.name
  | con n l =>
    intro B p M K bd out a c w h ht hK hbd ho
    have hB : B ≤ w.heap.size := Nat.le_trans h.bp (Nat.le_of_lt h.lt.1)
    rw [fv]
    exact (look_plain (.con n l) H (by simp [T.kind]) (by simp [T.kind]) B p M K bd out a c w hB h ht hK hbd ho).mono fun e w' ⟨h1, h2, h3, h4⟩ => ⟨h1, h2.mono (by omega), h3, h4⟩
  | fn x y =>
    intro B p M K bd out a c w h ht hK hbd ho
    have hB : B ≤ w.heap.size := Nat.le_trans h.bp (Nat.le_of_lt h.lt.1)
    have e : fv bd out (.fn x y) = fvs bd out (T.fn x y).kids := by simp [fv, T.kids, fvs]
    rw [e]
    exact (look_plain (.fn x y) H (by simp [T.kind]) (by simp [T.kind]) B p M K bd out a c w hB h ht hK hbd ho).mono fun e w' ⟨h1, h2, h3, h4⟩ => ⟨h1, h2.mono (by omega), h3, h4⟩
  | all n x =>
    intro B p M K bd out a c w h ht hK hbd ho
    have hB : B ≤ w.heap.size := Nat.le_trans h.bp (Nat.le_of_lt h.lt.1)
    have e : fv bd out (.all n x) = fvs ((T.all n x).name :: bd) out (T.all n x).kids := by simp [fv, T.kids, fvs, T.name]
    rw [e]
    exact (look_all (.all n x) H rfl hn.name B p M K bd out a c w hB h ht hK hbd ho).mono fun e w' ⟨h1, h2, h3, h4⟩ => ⟨h1, h2.mono (by omega), h3, h4⟩
termination_by SizeOf.sizeOf t
decreasing_by exact T.kid_size hk

/-- v is a slice of the texts l. -/
def TextsAt (w : World) (v : Value) (l : List ByteArray) : Prop :=
  ∃ a cap, v = .slice a l.length cap ∧ (l = [] ∨ ∃ g, a = some ⟨g, 0, none⟩ ∧ l.length ≤ cap ∧ ∃ cs fz, w.heap[g]? = some (.cells cs 9 fz) ∧ ∀ i (h : i < l.length), cs[i]? = some (.string l[i]))
theorem TextsAt.keep {w w' : World} {v : Value} {l : List ByteArray} (h : TextsAt w v l) (hk : ∀ (k : Nat) (cs : Array Value) (fz : Nat × Nat), w.heap[k]? = some (.cells cs 9 fz) → w'.heap[k]? = some (.cells cs 9 fz)) : TextsAt w' v l := by
  obtain ⟨a, cap, rfl, h⟩ := h
  refine ⟨a, cap, rfl, ?_⟩
  rcases h with h | ⟨g, e, hc, cs, fz, hg, hi⟩
  · exact .inl h
  · exact .inr ⟨g, e, hc, cs, fz, hk _ _ _ hg, hi⟩
theorem TextsAt.of_row {W : World} {base : Nat} {v : Value} {l : List ByteArray} (h : W.ownsRow base 9 1 v l.length (l.map Value.string)) : TextsAt W v l := by
  rcases h.2 with ⟨rfl, h0⟩ | ⟨g, cap, cur, rfl, _, hg, hc, hm, hcs, htk⟩
  · have : l = [] := List.length_eq_zero_iff.1 h0
    subst this
    exact ⟨none, 0, rfl, .inl rfl⟩
  · refine ⟨_, cap, rfl, .inr ⟨g, rfl, hc, cur, _, hg, fun i hi => ?_⟩⟩
    have e : (cur.toList.take (l.length * 1))[i]? = (l.map Value.string)[i]? := by rw [htk]
    rw [List.getElem?_take, if_pos (by omega), Array.getElem?_toList] at e
    simpa [hi] using e
theorem find_start (w : World) : FindAt w.heap.size (w.heap.size + 1) w.heap.size 0 (cnt [] []) [] ((w.alloc (.map #[] 0)).alloc (.cells #[.map (some w.heap.size), .slice none 0 0] 171)) := by
  refine ⟨by omega, Nat.le_refl _, ⟨.slice none 0 0, by have := alloc_new (w.alloc (.map #[] 0)) (.cells #[.map (some w.heap.size), .slice none 0 0] 171); simpa using this, ?_⟩, ⟨0, Nat.le_refl _, .map [], isMap_empty, ?_, fun n _ => ?_⟩⟩
  · exact ⟨by simp, .inl ⟨rfl, rfl⟩⟩
  · exact (World.ownsMap_made w Tryd.prog 9 _).alloc _
  · simp [DataW.atKey, cnt, cntB, inB]

set_option maxHeartbeats 2000000 in
theorem vars_any (l : List T) (hn : ∀ k ∈ l, Nm k) (hs : tsizes l ≤ 100000000) (a : Option Addr) (c : Nat) (w : World) (ht : TysAt w (.slice a l.length c) l) :
    Calls Tryd.prog 89 #[.slice a l.length c] w fun e w' => (∃ v, e = .returned v ∧ TextsAt w' v (fvs [] [] l)) ∧ KeepT w w' ∧ Below w.heap.size w w' := by
  have hlen := len_sizes' l
  have HF := Lib.hid (find_start w)
  have HB0 := Lib.hid (show ∀ o1 o2 : Obj, KeepT w ((w.alloc o1).alloc o2) ∧ Below w.heap.size w ((w.alloc o1).alloc o2) from fun o1 o2 => ⟨(keepT_alloc w o1).trans (keepT_alloc _ o2), ((Below.refl _ w).alloc (Nat.le_refl _) _).alloc (by simp) _⟩)
  have HR := Lib.hid ht.part
  have HS := Lib.hid (fun k (hk : k ∈ l) => look_ok k (hn k hk))
  clear hn ht
  have hmm := @run_makeMap Tryd.prog
  go_enter Tryd.func89, Tryd.ntmps89
  go_wp2
  go_loopw [10] (fun vi wr => ∃ i : Nat, i ≤ l.length ∧ vi = .int .i64 i ∧ Hid (FindAt w.heap.size (w.heap.size + 1) w.heap.size (2 * tsizes (l.take i)) (cnt [] (fvs [] [] (l.take i))) (fvs [] [] (l.take i)) wr ∧ KeepT w wr ∧ Below w.heap.size w wr)) (fun vi _ => l.length - (intOf vi).toNat)
  case atStart => exact ⟨0, Nat.zero_le _, rfl, Lib.hid (by simpa [fvs, tsizes] using ⟨HF.out, HB0.out _ _⟩)⟩
  case round =>
    obtain ⟨i, hi, rfl, hF⟩ := hrel
    by_cases hlt : i < l.length
    · obtain ⟨g, pa, ca, rfl, hcap, hr⟩ := HR.out i hlt
      obtain ⟨hF1, hKT, hBl⟩ := hF.out
      obtain ⟨⟨hg, x0, x1, x2⟩, xk⟩ := hr wr hKT
      have hsz := tsizes_take l i hlt
      have hl1 := fvs_len (l.take i) [] []
      have hkk := size_mem' (List.getElem_mem hlt)
      have hBw : w.heap.size ≤ wr.heap.size := hBl.size
      have HC := Lib.hid (fun o => HS.out l[i] (List.getElem_mem hlt) w.heap.size (w.heap.size + 1) w.heap.size (2 * tsizes (l.take i)) [] (fvs [] [] (l.take i)) pa ca (wr.alloc o) (hF1.alloc o) (xk.keep (keepT_alloc wr o)) (by omega) (by simp only [List.length_nil]; omega) (by simp only [List.length_nil] at hl1; omega))
      rw [← fvs_drop [] [] l i hlt, show 2 * tsizes (l.take i) + 2 * tsize l[i] = 2 * tsizes (l.take (i + 1)) by omega] at HC
      have HX := Lib.hid (fun (o : Obj) (W : World) (h1 : KeepT (wr.alloc o) W) (h2 : Below w.heap.size (wr.alloc o) W) => (⟨(hKT.trans (keepT_alloc wr o)).trans h1, (hBl.alloc hBw o).trans h2⟩ : KeepT w W ∧ Below w.heap.size w W))
      clear hr hF hF1 xk hBl hsz hl1 hkk HS HR HF HB0
      generalize l[i] = u at x0 x1 x2 HC
      simp only [tyV] at HC
      have hlt1 : ((i : Int) < (l.length : Int)) := by omega
      go_wp2_with (go_at_call 114; refine (HC.out _).mono ?_; rintro e w2 ⟨rfl, r1, r2, r3⟩; have HW2 := Lib.hid (And.intro r1 (HX.out _ _ r2 r3)); clear r1 r2 r3)
      refine ⟨⟨i + 1, by omega, by go_num, HW2⟩, ?_⟩
      simp [intOf]; omega
    · obtain rfl : i = l.length := by omega
      rw [List.take_length] at hF
      obtain ⟨hF1, hKT, hBl⟩ := hF.out
      obtain ⟨v, hv, hown⟩ := hF1.fin
      have c1 : wr.cell? ⟨w.heap.size + 1, 1, none⟩ = some v := by rw [Lib.cell_of_heap hv]; rfl
      obtain ⟨a1, cap1, rfl⟩ := row_slice hown
      have HT := Lib.hid (TextsAt.of_row hown)
      have HK := Lib.hid hKT; have HBl := Lib.hid hBl
      clear hF hF1 hown hv hKT hBl
      go_wp2
      go_ret
      exact ⟨⟨_, rfl, HT.out⟩, HK.out, HBl.out⟩
end Go.Proofs.YtdcfemojkdoakaaDoor
/- types.Size, types.Has; the document's Size. -/
namespace Go.Proofs.YtdcfemojkdoakaaDoor
open Go.RowKit
attribute [local go_sem] Oper.semAt_some

end Go.Proofs.YtdcfemojkdoakaaDoor
/- types.Has; the document's Size; texts in rows: Place, Has, SameTexts. -/
namespace Go.Proofs.YtdcfemojkdoakaaDoor
open Go.RowKit
attribute [local go_sem] Oper.semAt_some

/-- Whether a name is free in a type. -/
noncomputable def hasN (m : ByteArray) (t : T) (r : Bool) : Bool := (eqB t.kind 1 && eqB t.name m) || (!(eqB t.kind 4 && eqB t.name m) && r)
mutual
noncomputable def hasT (m : ByteArray) : T → Bool
  | .var n => eqB n m
  | .con _ l => hasTs m l
  | .fn a b => hasT m a || hasT m b
  | .all n a => !eqB n m && hasT m a
noncomputable def hasTs (m : ByteArray) : List T → Bool
  | [] => false
  | a :: l => hasT m a || hasTs m l
end
theorem hasT_eq (m : ByteArray) (t : T) : hasT m t = hasN m t (hasTs m t.kids) := by
  have e1 : ∀ (a b : Int), eqB a b = decide (a = b) := fun a b => by simp [eqB]
  cases t <;> simp [hasT, hasN, T.kind, T.name, T.kids, hasTs, e1]
theorem hasTs_take (m : ByteArray) (l : List T) (i : Nat) (h : i < l.length) : hasTs m (l.drop i) = (hasT m l[i] || hasTs m (l.drop (i + 1))) := by
  rw [List.drop_eq_getElem_cons h, hasTs]
open Classical in
mutual
theorem fv_mem (t : T) (bd out : List ByteArray) (n : ByteArray) : n ∈ fv bd out t ↔ n ∈ out ∨ (¬ n ∈ bd ∧ hasT n t = true) := by
  cases t with
  | var x =>
    rw [fv, hasT, eqB_iff]
    by_cases h : x ∈ bd ∨ x ∈ out
    · rw [if_pos h]
      constructor
      · exact .inl
      · rintro (h1 | ⟨h1, rfl⟩)
        · exact h1
        · exact h.resolve_left h1
    · rw [if_neg h]
      simp only [List.mem_append, List.mem_singleton]
      constructor
      · rintro (h1 | rfl)
        · exact .inl h1
        · exact .inr ⟨fun e => h (.inl e), rfl⟩
      · rintro (h1 | ⟨_, rfl⟩)
        · exact .inl h1
        · exact .inr rfl
  | con x l => rw [fv, hasT]; exact fvs_mem l bd out n
  | fn a b =>
    rw [fv, hasT, fv_mem b, fv_mem a, Bool.or_eq_true]
    constructor
    · rintro ((h | ⟨h1, h2⟩) | ⟨h1, h2⟩)
      · exact .inl h
      · exact .inr ⟨h1, .inl h2⟩
      · exact .inr ⟨h1, .inr h2⟩
    · rintro (h | ⟨h1, h2 | h2⟩)
      · exact .inl (.inl h)
      · exact .inl (.inr ⟨h1, h2⟩)
      · exact .inr ⟨h1, h2⟩
  | all x a =>
    rw [fv, hasT, fv_mem a, Bool.and_eq_true, Bool.not_eq_true']
    have : eqB x n = false ↔ ¬ n = x := by
      constructor
      · rintro h rfl; rw [eqB_true rfl] at h; cases h
      · intro h; exact eqB_false fun e => h e.symm
    rw [this, List.mem_cons]
    constructor
    · rintro (h | ⟨h1, h2⟩)
      · exact .inl h
      · exact .inr ⟨fun e => h1 (.inr e), fun e => h1 (.inl e), h2⟩
    · rintro (h | ⟨h1, h2, h3⟩)
      · exact .inl h
      · exact .inr ⟨fun e => e.elim h2 h1, h3⟩
theorem fvs_mem (l : List T) (bd out : List ByteArray) (n : ByteArray) : n ∈ fvs bd out l ↔ n ∈ out ∨ (¬ n ∈ bd ∧ hasTs n l = true) := by
  cases l with
  | nil => simp [fvs, hasTs]
  | cons a l =>
    rw [fvs, hasTs, fvs_mem l, fv_mem a, Bool.or_eq_true]
    constructor
    · rintro ((h | ⟨h1, h2⟩) | ⟨h1, h2⟩)
      · exact .inl h
      · exact .inr ⟨h1, .inl h2⟩
      · exact .inr ⟨h1, .inr h2⟩
    · rintro (h | ⟨h1, h2 | h2⟩)
      · exact .inl (.inl h)
      · exact .inl (.inr ⟨h1, h2⟩)
      · exact .inr ⟨h1, h2⟩
end
mutual
theorem has_good (t : T) (h : T.Good t) (n : ByteArray) (hn : ¬ n.data.toList ∈ T.vnames) : hasT n t = false := by
  cases t with
  | var x =>
    rw [hasT]
    exact eqB_false fun e => hn (by rw [T.Good] at h; rw [← e]; exact h)
  | con x l => rw [T.Good] at h; rw [hasT]; exact hass_good l h.2 n hn
  | fn a b => rw [T.Good] at h; rw [hasT, has_good a h.1 n hn, has_good b h.2 n hn]; rfl
  | all x a => rw [T.Good] at h; exact h.elim
theorem hass_good (l : List T) (h : T.Goods l) (n : ByteArray) (hn : ¬ n.data.toList ∈ T.vnames) : hasTs n l = false := by
  cases l with
  | nil => rw [hasTs]
  | cons a l => rw [T.Goods] at h; rw [hasTs, has_good a h.1 n hn, hass_good l h.2 n hn]; rfl
end

end Go.Proofs.YtdcfemojkdoakaaDoor
/- Two types as one: of the types that the statements make. -/
namespace Go.Proofs.YtdcfemojkdoakaaDoor

theorem br_ge2 (b : Bool) (s : List UInt8) : s.length ≤ (T.br b s).length := by
  unfold T.br; split <;> simp; omega
theorem vname_len {x : List UInt8} (h : x ∈ T.vnames) : 1 ≤ x.length := by
  simp [T.vnames] at h; rcases h with rfl | rfl | rfl <;> simp
theorem cname_len {x : List UInt8} (h : x ∈ T.cnames) : 1 ≤ x.length := by
  simp [T.cnames] at h; rcases h with rfl | rfl | rfl | rfl <;> simp
mutual
theorem tsize2_text (t : T) (h : T.Good t) : 2 * tsize t ≤ (T.text t).length + 1 := by
  cases t with
  | var n =>
    simp only [T.Good] at h
    have := vname_len h
    simp only [tsize, T.text]; omega
  | con n l =>
    simp only [T.Good] at h
    have h1 := cname_len h.1
    have h2 := tsizes2_texts l h.2
    simp only [tsize, T.text, List.length_append]; omega
  | fn a b =>
    simp only [T.Good] at h
    have h1 := tsize2_text a h.1
    have h2 := tsize2_text b h.2
    have h3 := br_ge2 a.arrow (T.text a)
    simp only [tsize, T.text, List.length_append, List.length_cons, List.length_nil]; omega
  | all n a => simp only [T.Good] at h
theorem tsizes2_texts (l : List T) (h : T.Goods l) : 2 * tsizes l ≤ (T.texts l).length := by
  cases l with
  | nil => simp [tsizes]
  | cons a r =>
    simp only [T.Goods] at h
    have h1 := tsize2_text a h.1
    have h2 := tsizes2_texts r h.2
    have h3 := br_ge2 a.wide (T.text a)
    simp only [tsizes, T.texts, List.length_append, List.length_cons, List.length_nil]; omega
end
theorem goods_mem {k : T} : ∀ {l : List T}, T.Goods l → k ∈ l → T.Good k
  | [], _, h => by cases h
  | a :: l, h, hk => by
    simp only [T.Goods] at h
    rcases List.mem_cons.1 hk with rfl | hk
    · exact h.1
    · exact goods_mem h.2 hk
theorem good_kid {t k : T} (h : T.Good t) (hk : k ∈ t.kids) : T.Good k := by
  cases t with
  | var n => cases hk
  | con n l => simp only [T.Good] at h; exact goods_mem h.2 hk
  | fn a b =>
    simp only [T.Good] at h
    simp [T.kids] at hk
    rcases hk with rfl | rfl
    · exact h.1
    · exact h.2
  | all n a => simp only [T.Good] at h
/-- The three variables of types that are made. -/
def V3 : List ByteArray := [⟨#[97]⟩, ⟨#[98]⟩, ⟨#[99]⟩]
theorem vname_in {n : ByteArray} (h : n.data.toList ∈ T.vnames) : n ∈ V3 := by
  have e : ∀ l : List UInt8, n.data.toList = l → n = ⟨l.toArray⟩ := fun l e => by
    cases n with | mk d => cases d; simp at e; rw [e]
  simp [T.vnames] at h
  rcases h with h | h | h
  · rw [e _ h]; simp [V3]
  · rw [e _ h]; simp [V3]
  · rw [e _ h]; simp [V3]
theorem good_in : ∀ t, T.Good t → TIn V3 t := by
  refine T.kidsInd fun t ih h x hx => ?_
  cases hv : t.isV with
  | true =>
    rw [isV_var hv] at h hx
    simp [vs] at hx
    subst hx
    exact vname_in (by simpa [T.Good] using h)
  | false =>
    obtain ⟨k, hk, hx⟩ := (vs_kids hv).1 hx
    exact ih k hk (good_kid h hk) x hx
/-- No variable is bound. -/
def NoAll (t : T) : Prop := ∀ x, hasT x t = true ↔ x ∈ vs t
theorem hasTs_any (x : ByteArray) : ∀ l : List T, hasTs x l = true ↔ ∃ k ∈ l, hasT x k = true
  | [] => by simp [hasTs]
  | a :: l => by rw [hasTs, Bool.or_eq_true, hasTs_any x l]; simp
theorem noAll_of {t : T} (h4 : t.kind ≠ 4) (hk : ∀ k ∈ t.kids, NoAll k) : NoAll t := by
  intro x
  cases t with
  | var n => rw [hasT, eqB_iff]; simp [vs, eq_comm]
  | con n l =>
    rw [hasT, hasTs_any, vs_kids rfl]
    exact ⟨fun ⟨k, h1, h2⟩ => ⟨k, h1, (hk k h1 x).1 h2⟩, fun ⟨k, h1, h2⟩ => ⟨k, h1, (hk k h1 x).2 h2⟩⟩
  | fn a b =>
    rw [hasT, Bool.or_eq_true, hk a (by simp [T.kids]) x, hk b (by simp [T.kids]) x]
    simp [vs]
  | all n a => exact absurd rfl h4
/-- No kind but the three, anywhere. -/
inductive Plain3 : T → Prop
  | mk (t : T) : t.kind ≠ 4 → (∀ k ∈ t.kids, Plain3 k) → Plain3 t
theorem Plain3.no {t : T} (h : Plain3 t) : NoAll t := by
  induction h with
  | mk t h _ ih => exact noAll_of h ih
theorem Plain3.kid {t k : T} (h : Plain3 t) (hk : k ∈ t.kids) : Plain3 k := by cases h with | mk _ _ h => exact h k hk
theorem Plain3.four {t : T} (h : Plain3 t) : t.kind ≠ 4 := by cases h; assumption
theorem good_plain : ∀ t, T.Good t → Plain3 t := by
  refine T.kidsInd fun t ih h => .mk t ?_ fun k hk => ih k hk (good_kid h hk)
  cases t with
  | all n a => simp only [T.Good] at h
  | _ => simp [T.kind]
theorem plain_sub {σ : Sg} : ∀ t, Plain3 t → (∀ y ∈ vs t, Plain3 (σ y)) → Plain3 (sub σ t) := by
  refine T.kidsInd fun t ih h hs => ?_
  cases hv : t.isV with
  | true =>
    rw [isV_var hv] at hs ⊢
    exact hs _ (by simp [vs])
  | false =>
    obtain ⟨a1, _, a3, _⟩ := sub_parts σ t hv
    refine .mk _ (by rw [a1]; exact h.four) fun k hk => ?_
    rw [a3] at hk
    obtain ⟨k0, hk0, rfl⟩ := List.mem_map.1 hk
    exact ih k0 hk0 (h.kid hk0) fun y hy => hs y ((vs_kids hv).2 ⟨k0, hk0, hy⟩)
theorem from_plain {O : T → Prop} {σ : Sg} (hF : FromU O σ) (hP : ∀ t, O t → Plain3 t) : ∀ n x, tsize (σ x) ≤ n → Plain3 (σ x) := by
  intro n
  induction n with
  | zero => intro x h; have := tsize_pos (σ x); omega
  | succ n ih =>
    intro x hx
    rcases hF x with hv | ⟨t, ht, hvt, et⟩
    · rw [isV_var hv]; exact .mk _ (by simp [T.kind]) fun k hk => by cases hk
    · rw [et]
      refine plain_sub t (hP t ht) fun y hy => ih y ?_
      have hlt : tsize (σ y) < tsize (σ x) := by rw [et]; exact size_sub_lt hvt hy
      omega
theorem size_sub_ge {σ : Sg} : ∀ t, tsize t ≤ tsize (sub σ t) := by
  refine T.kidsInd fun t ih => ?_
  cases hv : t.isV with
  | true => rw [isV_var hv]; exact tsize_pos _
  | false =>
    obtain ⟨_, _, a3, _⟩ := sub_parts σ t hv
    rw [tsize_eq t, tsize_eq (sub σ t), a3]
    have key : ∀ l : List T, (∀ k ∈ l, tsize k ≤ tsize (sub σ k)) → tsizes l ≤ tsizes (l.map (sub σ)) := by
      intro l
      induction l with
      | nil => intro _; simp [tsizes]
      | cons a l ih2 =>
        intro hl
        have h1 := hl a (by simp)
        have h2 := ih2 fun k hk => hl k (List.mem_cons_of_mem _ hk)
        rw [List.map_cons, tsizes, tsizes]; omega
    have := key t.kids ih
    omega
/-- Types that a statement starts with: closed under parts; of so many variables; never too great. -/
structure USet where
  V : List ByteArray
  O : T → Prop
  kid : ∀ t, O t → ∀ k ∈ t.kids, O k
  tin : ∀ t, O t → TIn V t
  var : ∀ x ∈ V, O (.var x)
  plain : ∀ t, O t → Plain3 t
  G : Sg → Prop
  P : T → T → Prop
  start : G T.var
  kids : ∀ a b, P a b → a.isV = false → b.isV = false → a.kids.length = b.kids.length → ∀ i (h1 : i < a.kids.length) (h2 : i < b.kids.length), P a.kids[i] b.kids[i]
  «at» : ∀ σ a b, G σ → P a b → P (sub σ a) (sub σ b)
  fin : ∀ f σ a b τ, Idem σ → G σ → P a b → uni f σ a b = some (.ok τ) → G τ
  le : ∀ σ, FromU O σ → G σ → ∀ t, O t → tsize (sub σ t) ≤ 900000000
  nm : ∀ x ∈ V, x.size ≤ 1000
  sz : ∀ t, O t → tsize t ≤ 400000
/-- Types of these variables, of at most so many parts. -/
def usetV (V : List ByteArray) (N : Nat) (h1 : 1 ≤ N) (h : N * N ^ V.length ≤ 900000000) (hn : ∀ x ∈ V, x.size ≤ 1000) (hN : N ≤ 400000) : USet where
  V := V
  O := fun t => TIn V t ∧ Plain3 t ∧ tsize t ≤ N
  kid := fun t ht k hk => ⟨fun x hx => by
      cases hv : t.isV with
      | true => rw [isV_var hv] at hk; cases hk
      | false => exact ht.1.kid hv hk x hx, ht.2.1.kid hk, by have := tsize_kid hk; have := ht.2.2; omega⟩
  tin := fun t ht => ht.1
  var := fun x hx => ⟨fun y hy => by simp [vs] at hy; exact hy ▸ hx, .mk _ (by simp [T.kind]) (fun k hk => by cases hk), by simpa [tsize] using h1⟩
  plain := fun t ht => ht.2.1
  G := fun _ => True
  P := fun _ _ => True
  start := trivial
  kids := fun _ _ _ _ _ _ _ _ _ => trivial
  «at» := fun _ _ _ _ _ => trivial
  fin := fun _ _ _ _ _ _ _ _ _ => trivial
  le := fun σ hF _ t ht => by
    have h0 : ∀ x ∈ V, tsize (σ x) ≤ N ^ V.length := fun x hx => from_le (V := V) (N := N) hF (fun t ht _ => ht.1) (fun t ht => ht.2.2) h1 hx
    have h2 := size_subs (σ := σ) (M := N ^ V.length) (Nat.one_le_pow _ _ h1) t fun y hy => h0 y (ht.1 y hy)
    have h3 := Nat.mul_le_mul_right (N ^ V.length) ht.2.2
    omega
  nm := hn
  sz := fun t ht => Nat.le_trans ht.2.2 hN
theorem v3_small : ∀ x ∈ V3, x.size ≤ 1000 := by
  intro x hx
  simp [V3] at hx
  rcases hx with rfl | rfl | rfl <;> decide
def uset3 : USet := usetV V3 107 (by decide) (by decide) v3_small (by decide)
theorem good_o3 {t : T} (h : T.Good t) (hs : tsize t ≤ 107) : uset3.O t := ⟨good_in t h, good_plain t h, hs⟩
/-- What was found so far, of types that a statement makes. -/
structure UInv (S : USet) (σ : Sg) : Prop where
  idem : Idem σ
  src : FromU S.O σ
  vin : VIn S.V σ
  good : S.G σ
theorem uinv_var (S : USet) : UInv S T.var := ⟨idem_var, from_var _, vin_var _, S.start⟩
/-- A type within what was made, with what was found so far in it. -/
def UArg (S : USet) (σ : Sg) (a : T) : Prop := InstU S.O σ a
theorem UInv.var_le {S : USet} {σ : Sg} (h : UInv S σ) {x : ByteArray} (hx : x ∈ S.V) : tsize (σ x) ≤ 900000000 := S.le σ h.src h.good (.var x) (S.var x hx)
theorem UInv.plain {S : USet} {σ : Sg} (h : UInv S σ) {t : T} (ht : S.O t) : Plain3 (sub σ t) :=
  plain_sub t (S.plain t ht) fun y _ => from_plain h.src S.plain _ y (Nat.le_refl _)
theorem UArg.le {S : USet} {σ : Sg} {a : T} (h : UArg S σ a) (hi : UInv S σ) : tsize (sub σ a) ≤ 900000000 ∧ tsize a ≤ 900000000 := by
  obtain ⟨o, ho, e⟩ := h
  have h1 := S.le σ hi.src hi.good o ho
  rw [← e] at h1
  exact ⟨h1, Nat.le_trans (size_sub_ge a) h1⟩
theorem UArg.plain {S : USet} {σ : Sg} {a : T} (h : UArg S σ a) (hi : UInv S σ) : Plain3 (sub σ a) := by
  obtain ⟨o, ho, e⟩ := h
  rw [e]; exact hi.plain ho
theorem UArg.tin {S : USet} {σ : Sg} {a : T} (h : UArg S σ a) (hi : UInv S σ) : TIn S.V (sub σ a) := by
  obtain ⟨o, ho, e⟩ := h
  rw [e]; exact hi.vin.sub (S.tin o ho)
theorem UArg.ext {S : USet} {σ τ : Sg} {a : T} (h : UArg S σ a) (hi : UInv S σ) (he : ExtU σ τ) : UArg S τ a := InstU.ext h he hi.idem
theorem UArg.kid {S : USet} {σ : Sg} {a k : T} (h : UArg S σ a) (hi : UInv S σ) (hv : (sub σ a).isV = false) (hk : k ∈ (sub σ a).kids) : UArg S σ k := InstU.kid S.kid h hi.src hi.idem hv hk
theorem UArg.of {S : USet} {σ : Sg} {a : T} (h : S.O a) : UArg S σ a := ⟨a, h, rfl⟩
/-- Pairs that say what was found, none twice, of these variables. -/
structure PInv (S : USet) (d : List PR) (σ : Sg) : Prop where
  is : IsSg d σ
  each : ∀ x ∈ d, x.n ∈ S.V ∧ x.t = σ x.n
  few : d.length + uns S.V σ ≤ S.V.length
theorem pinv_nil (S : USet) : PInv S [] T.var := ⟨isSg_nil, (fun _ h => nomatch h), by have := List.length_filter_le (fun x => @decide (T.var x = .var x) (Classical.propDecidable _)) S.V; simpa [uns] using this⟩
theorem PInv.len {S : USet} {d : List PR} {σ : Sg} (h : PInv S d σ) : d.length ≤ S.V.length := by have := h.few; omega
theorem PInv.sized {S : USet} {d : List PR} {σ : Sg} (h : PInv S d σ) (hi : UInv S σ) : ∀ x ∈ d, tsize x.t ≤ 900000000 := fun x hx => by
  rw [(h.each x hx).2]; exact hi.var_le (h.each x hx).1
/-- One more pair, as the document's Then and as the program's make it. -/
theorem PInv.bind {S : USet} {d q : List PR} {σ τ : Sg} {p : PR} (h : PInv S d σ) (hb : Binds σ p.n p.t τ) (hx : p.n ∈ S.V) (hq : ∀ y ∈ q, (∃ x ∈ d, y.n = x.n ∧ y.t = app [p] x.t) ∨ y.n = p.n ∧ y.t = p.t) (hl : q.length ≤ d.length + 1) (ht : ∀ n, ty n q = app [p] (ty n d)) : PInv S q τ := by
  have ha : ∀ t, app [p] t = sub (one p.n p.t) t := fun t => by rw [app_sub]; exact sub_ext t fun n _ => ty_one n p
  refine ⟨fun n => ?_, fun y hy => ?_, ?_⟩
  · rw [ht, h.is n, ha, hb.new]
  · rcases hq y hy with ⟨x, hx, e1, e2⟩ | ⟨e1, e2⟩
    · rw [e1, e2, (h.each x hx).2, ha, hb.new]
      exact ⟨(h.each x hx).1, rfl⟩
    · rw [e1, e2, hb.new]
      refine ⟨hx, ?_⟩
      show p.t = sub (one p.n p.t) (σ p.n)
      rw [hb.free]
      exact (one_at p.n p.t).symm
  · have h1 := hb.fewer (V := S.V) hx
    have h2 := h.few
    omega
end Go.Proofs.YtdcfemojkdoakaaDoor
/- The program's graph: put, of any type. -/
namespace Go.Proofs.YtdcfemojkdoakaaDoor
open Go.RowKit Go.Maps
attribute [local go_sem] Oper.semAt_some

theorem tsizes_upto : ∀ {l : List T} {i : Nat} (h : i < l.length), tsizes (l.take i) + tsize l[i] ≤ tsizes l
  | a :: l, 0, _ => by simp [tsizes]
  | a :: l, i + 1, h => by
    have := tsizes_upto (l := l) (i := i) (by simpa using h)
    rw [List.take_succ_cons, tsizes, tsizes, List.getElem_cons_succ]; omega
set_option maxRecDepth 100000 in
set_option maxHeartbeats 4000000 in
theorem put_step (t : T) (H : ∀ k ∈ t.kids, PutOK k) (hv : t.isV = false) (h4 : t.kind ≠ 4) : PutOK t := by
  intro B G rt E c g mb pv sl w a ca h gi hE hB hN hE2 hT
  have hkz : (t.kind == 1) = false := by cases t <;> simp_all [T.kind, T.isV]
  have hsz := tsize_eq t
  have hln := len_sizes' t.kids
  obtain ⟨W1, hW1⟩ : ∃ W1, w.alloc (.cells #[.int .i64 t.kind, .string t.name, .slice a t.kids.length ca] 29) = W1 := ⟨_, rfl⟩
  obtain ⟨W2, hW2⟩ : ∃ W2, W1.alloc (.cells (madeCells #[.int .i64 0] t.kids.length) 3) = W2 := ⟨_, rfl⟩
  have hs1 : W1.heap.size = w.heap.size + 1 := by rw [← hW1]; simp
  have hb1 : Below w.heap.size w W1 := by rw [← hW1]; exact (Below.refl _ w).alloc (Nat.le_refl _) _
  have hb2 : Below W1.heap.size W1 W2 := by rw [← hW2]; exact (Below.refl _ W1).alloc (Nat.le_refl _) _
  have hbx : W1.heap[w.heap.size]? = some (.cells #[.int .i64 t.kind, .string t.name, .slice a t.kids.length ca] 29 (0, 0)) := by rw [← hW1]; exact alloc_new w _
  have hbx2 := (hb2.block _ (by omega)).trans hbx
  have hZ : OwnI (w.heap.size + 1) (.slice (some ⟨w.heap.size + 1, 0, none⟩) t.kids.length t.kids.length) ((List.range t.kids.length).map fun _ => 0) W2 := by rw [← hs1, ← hW2]; exact own_zeros W1 _ (by omega)
  have hb12 := hb1.trans (hb2.mono hb1.size)
  have HI := Lib.hid (⟨G, rt, E, pv, sl, fun _ => 0, h.keep hb12, ⟨ExtG.refl G rt, gi, hE, by omega, Nat.le_refl _, by simp [tsizes]⟩, ⟨NewSl.refl _ _ _, (fun k hk hag e => by have := h.lowSl k hk hag _ e; omega), fun i h1 h2 => absurd h2 (Nat.not_lt.2 h1)⟩, ⟨hZ, fun k _ h => absurd h (Nat.not_lt_zero _)⟩, KeepP.of_below hb12, hb12.mono hB, hbx2⟩ : PutI B G rt E c g mb sl t (.slice a t.kids.length ca) w (w.heap.size + 1) 0 W2)
  have hmk := make_ints t.kids.length t.kids.length (Nat.le_refl _) (by omega) W1
  rw [hW2, hs1] at hmk
  obtain ⟨z0, z1, z2⟩ := three_cells hbx
  obtain ⟨q0, q1, q2⟩ := three_cells hbx2
  have HT := Lib.hid (fun (i : Nat) (hi : i < t.kids.length) => hT.part i hi)
  have hlen6 : t.kids.length ≤ 1000000 := by omega
  have HH := Lib.hid H
  clear h gi hE hT hb1 hb2 hbx hbx2 hZ hb12 hs1 H hln
  subst hW1
  simp only [tyV]
  go_enter Tryd.func48, Tryd.ntmps48
  go_wp2
  go_loopw [22] (fun vi wr => ∃ i : Nat, i ≤ t.kids.length ∧ vi = .int .i64 (i : Nat) ∧ Hid (PutI B G rt E c g mb sl t (.slice a t.kids.length ca) w (w.heap.size + 1) i wr)) (fun vi _ => t.kids.length - (intOf vi).toNat)
  case atStart => exact ⟨0, Nat.zero_le _, rfl, HI⟩
  case round =>
    obtain ⟨i, hi, rfl, hX⟩ := hrel
    by_cases hlt : i < t.kids.length
    · have hiz : (i : Int) < (t.kids.length : Int) := by omega
      obtain ⟨G1, r1, E1, pv1, s1, Wf, p1, ⟨e1, gi1, hE1, n1, l1, b1⟩, p3, p4, p5, p6, p7⟩ := hX.out
      obtain ⟨gk, pa, pc, rfl, hcap, hpart⟩ := HT.out i hlt
      obtain ⟨⟨hgl, x0, x1, x2⟩, hk⟩ := hpart wr p5.tys
      obtain ⟨q0, q1, q2⟩ := three_cells p7
      have hble : tsize t.kids[i] ≤ tsizes t.kids := size_mem' (List.getElem_mem hlt)
      have hts : tsizes (t.kids.take i) + tsize t.kids[i] ≤ tsizes t.kids := tsizes_upto hlt
      obtain ⟨x3, hx3⟩ := p4.1.some
      have c3 := hx3 i hlt
      have f3 := p4.1.freeAt i
      have hbb := (Below.refl _ wr).alloc (Nat.le_refl _) (.cells #[.int .i64 t.kids[i].kind, .string t.kids[i].name, .slice pa t.kids[i].kids.length pc] 29)
      have hBr : B ≤ wr.heap.size := Nat.le_trans hB p6.size
      have HC := Lib.hid (HH.out t.kids[i] (List.getElem_mem hlt) B G1 r1 E1 c g mb pv1 s1 _ pa pc (p1.keep hbb) gi1 hE1 (Nat.le_trans hBr hbb.size) (by omega) (by omega) (hk.keep (KeepT.of_below hbb)))
      have HN := Lib.hid (fun (r : Nat) (G2 : Gr) (r2 : Nat → Nat) (E2 : Nat) (pv2 : Value) (s2 : Nat → Value) (w5 : World) hr y1 y2 y3 y4 => PutI.next (c := c) (g := g) (mb := mb) (r := r) (G2 := G2) (r2 := r2) (E2 := E2) (pv2 := pv2) (s2 := s2) (w5 := w5) (Nat.lt_succ_self w.heap.size) hB hlt ⟨e1, n1, l1, b1⟩ p3 p4 p5 p6 p7 hbb hr y1 y2 y3 y4)
      have HP4 := Lib.hid p4.1
      have hab : w.heap.size + 1 < wr.heap.size := by obtain ⟨cs, hcs⟩ := p4.1.blk; exact (Array.getElem?_eq_some_iff.1 hcs).1
      have HBB := Lib.hid hbb
      clear p1 e1 gi1 hE1 n1 l1 b1 p3 p4 p5 p6 p7 hX hpart hk hbb hx3
      generalize t.kids[i] = u at *
      simp only [tyV] at HC
      go_wp2_with (go_at_call 48; refine HC.out.mono ?_)
      rintro e w5 ⟨G2, r2, E2, pv2, s2, r, ⟨rfl, h1, h2⟩, h3, h4, h5, h6⟩
      have hO5 := (HP4.out.below HBB.out)
      have hO5' : OwnI (w.heap.size + 1) (.slice (some ⟨w.heap.size + 1, 0, none⟩) t.kids.length t.kids.length) ((List.range t.kids.length).map Wf) w5 := row_kept hO5 fun k cs fz hk => h5 k cs _ fz hk (by decide) (by decide)
      obtain ⟨x5, hx5⟩ := hO5'.some
      have c5 := hx5 i hlt
      have f5 := hO5'.freeAt i
      have l5 : w.heap.size + 1 < w5.heap.size := by obtain ⟨cs, hcs⟩ := hO5'.blk; exact (Array.getElem?_eq_some_iff.1 hcs).1
      have HX5 := Lib.hid (HN.out r G2 r2 E2 pv2 s2 w5 ⟨h1, h2⟩ h3 h4 h5 h6)
      clear h1 h2 h3 h4 h5 h6 hO5 hO5' hx5 HN HC
      go_wp2
      go_roundw
      case rel => exact ⟨i + 1, by omega, by go_num, HX5⟩
      case measure => simp [intOf]; omega
    · have hiz : ¬ ((i : Int) < (t.kids.length : Int)) := by omega
      obtain rfl : i = t.kids.length := by omega
      obtain ⟨G1, r1, E1, pv1, s1, Wf, p1, ⟨e1, gi1, hE1, n1, l1, b1⟩, p3, p4, p5, p6, p7⟩ := hX.out
      rw [List.take_length] at n1 b1
      obtain ⟨l, hl⟩ : ∃ l, (List.range t.kids.length).map Wf = l := ⟨_, rfl⟩
      have hll : l.length = t.kids.length := by rw [← hl]; simp
      have hlg : ∀ k (h1 : k < l.length) (h2 : k < t.kids.length), l[k] < G1.N ∧ G1.tr l[k] = t.kids[k] := fun k h1 h2 => by
        have e : l[k] = Wf k := by simp [← hl]
        rw [e]; exact p4.2 k h2 h2
      have hnv : t.isV = true → ∀ i, i < G1.N → G1.tr i ≠ t := fun h => by rw [hv] at h; cases h
      have hok : (G1.snoc t l).OK := gi1.ok.snoc (List.ext_getElem (by simp [hll]) fun k h1 h2 => by
          rw [List.getElem_map]; exact (hlg k (by simpa using h2) h1).2.symm) (fun x hx => by
          obtain ⟨k, hk, rfl⟩ := List.getElem_of_mem hx
          exact (hlg k hk (by omega)).1) hnv h4
      obtain ⟨q0, q1, q2⟩ := three_cells p7
      obtain ⟨_, _, y2, _, yf⟩ := p1.cells
      have hgl := p1.lt
      have f2 := yf 2
      obtain ⟨m1, m2⟩ := p1.edge (E' := E1 + t.kids.length)
      have hargs : PlcAt wr (.slice (some ⟨w.heap.size + 1, 0, none⟩) t.kids.length t.kids.length) l := by rw [← hl]; exact p4.1.plcAt
      obtain ⟨hbg, htop, ⟨nx, hh, hW, hr, hs⟩, ⟨f, hmb, hM, hP⟩⟩ := m1
      have hbE : Below B wr (wr.setCell ⟨g, 2, none⟩ (.int .i64 ((E1 + t.kids.length : Nat) : Int))) := (Below.refl _ wr).setCell (p := ⟨g, 2, none⟩) hbg _
      have hcast : ((E1 + t.kids.length : Nat) : Int) = (E1 : Int) + (t.kids.length : Int) := by omega
      have HA := Lib.hid (add_any (v := .slice (some ⟨w.heap.size + 1, 0, none⟩) t.kids.length t.kids.length) (t := t) (x := 0) htop hbg (Nat.le_trans hB (Nat.le_trans p6.size hbE.size)) hr (by omega) rfl)
      have HQ : Hid (∀ w6, Added B G1 t (.slice (some ⟨w.heap.size + 1, 0, none⟩) t.kids.length t.kids.length) (E1 + t.kids.length) c g mb s1 nx (wr.setCell ⟨g, 2, none⟩ (.int .i64 ((E1 + t.kids.length : Nat) : Int))) w6 → PutR B G rt E c g mb sl t w (.returned (.int .i64 (G1.N : Nat))) w6) := Lib.hid fun w6 h6 => by
        have h6' := h6
        obtain ⟨_, k6, b6⟩ := h6
        obtain ⟨pv6, hgm⟩ := GM.added (t := t) (l := l) hbg hW hs (m2.ints hargs) h6' (w2 := w6) (fun _ _ _ _ h => h) ⟨f, hmb, (k6.map hM).mono (Nat.le_succ _), plv_con hP hv⟩
        refine ⟨G1.snoc t l, upto r1 G1.N, E1 + t.kids.length, pv6, _, G1.N, ⟨rfl, Nat.lt_succ_self _, (snoc_new G1 _ _).1⟩, ⟨e1.trans (ExtG.snoc gi1 t l hnv), gi1.snoc hok, fun i hi => ?_, ?_, by omega, by omega, p3.1.trans (NewSl.snoc (M := w.heap.size) fun b hb => ?_) (Nat.le_refl _) e1.n, fun i hi1 hi2 x hx => ?_⟩, hgm, (p5.trans m2.p).trans k6.p, (p6.trans hbE).trans b6⟩
        · rcases snoc_cases hi with h1 | rfl
          · rw [(snoc_old G1 t l h1).2]; have := hE1 i h1; omega
          · rw [(snoc_new G1 t l).2]; omega
        · show G1.N + 1 ≤ _; omega
        · have : w.heap.size + 1 = b := by simpa [Value.ownBlock] using hb
          omega
        · rcases snoc_cases hi2 with h1 | rfl
          · rw [(snoc_old G1 t l h1).1] at hx
            exact (vs_kids hv).2 (p3.2.2 i hi1 h1 x hx)
          · rw [(snoc_new G1 t l).1] at hx; exact hx
      have u0 : ∀ y : Value, (wr.setCell ⟨g, 2, none⟩ y).cell? ⟨w.heap.size, 0, none⟩ = some (.int .i64 t.kind) := fun y => (World.cell?_of_block (a := ⟨w.heap.size, 0, none⟩) (Below.heap_setCell wr ⟨g, 2, none⟩ y w.heap.size (by rintro e; have h7 := p7; rw [show w.heap.size = g from e, p1.top] at h7; cases h7))).trans q0
      have u1 : ∀ y : Value, (wr.setCell ⟨g, 2, none⟩ y).cell? ⟨w.heap.size, 1, none⟩ = some (.string t.name) := fun y => (World.cell?_of_block (a := ⟨w.heap.size, 1, none⟩) (Below.heap_setCell wr ⟨g, 2, none⟩ y w.heap.size (by rintro e; have h7 := p7; rw [show w.heap.size = g from e, p1.top] at h7; cases h7))).trans q1
      have v0 := u0 (.int .i64 ((E1 + t.kids.length : Nat) : Int))
      have v1 := u1 (.int .i64 ((E1 + t.kids.length : Nat) : Int))
      have hzero : ((0 : Nat) : Int) = 0 := rfl
      have hb9 : E1 ≤ 1000000 := by omega
      rw [hcast] at HA HQ v0 v1
      rw [hzero] at HA
      clear p1 e1 gi1 hE1 n1 l1 b1 p3 p4 p5 p6 p7 hX hl hlg hok hnv m2 hargs htop hW hr hs hM hP hbE yf u0 u1 hcast
      go_wp2_with (go_at_call 79; refine HA.out.mono ?_)
      rintro e w6 rfl h6
      have HR := Lib.hid (HQ.out w6 h6)
      clear h6 HA HQ
      go_wp2
      go_ret
      exact HR.out
theorem put_any (t : T) (h : Plain3 t) (hn : ∀ x ∈ vs t, x.size ≤ 1000) : PutOK t := by
  revert h hn
  refine T.kidsInd (P := fun t => Plain3 t → (∀ x ∈ vs t, x.size ≤ 1000) → PutOK t) (fun t ih h hn => ?_) t
  cases hv : t.isV with
  | true =>
    rw [isV_var hv]
    exact put_var _ (hn _ (by rw [isV_var hv]; simp [vs, T.name]))
  | false => exact put_step t (fun k hk => ih k hk (h.kid hk) fun x hx => hn x ((vs_kids hv).2 ⟨k, hk, hx⟩)) hv h.four
end Go.Proofs.YtdcfemojkdoakaaDoor
/- The program's graph: alike. -/
namespace Go.Proofs.YtdcfemojkdoakaaDoor
open Go.RowKit Go.Maps
attribute [local go_sem] Oper.semAt_some

theorem two_drew (w : World) (o1 o2 : Obj) : Below w.heap.size w ((w.alloc o1).alloc o2).drew := (((Below.refl _ w).alloc (Nat.le_refl _) o1).alloc (by simp) o2).drew
set_option maxHeartbeats 4000000 in
theorem alike_any {B : Nat} {G : Gr} {rt : Nat → Nat} {E c g mb p cap a b : Nat} {sl : Nat → Value} {w : World} (h : GM B G rt E c g mb (.slice (some ⟨p, 0, none⟩) G.N cap) sl w) (hG : G.OK) (ha : a < G.N) (hb : b < G.N) (va : (G.tr a).isV = false) (vb : (G.tr b).isV = false) :
    Calls Tryd.prog 75 #[gp g, .int .i64 (a : Int), .int .i64 (b : Int)] w fun e w' => e = .returned (.bool (likeB G a b)) ∧ Below w.heap.size w w' := by
  obtain ⟨hlt, hcap, va1, ca1, x0, x1, x2, _⟩ := h.part ha
  obtain ⟨_, _, vb1, cb1, z0, z1, z2, _⟩ := h.part hb
  obtain ⟨nxa, x3⟩ : ∃ v, w.cell? ⟨p, a * 4 + 3, none⟩ = some (.int .i64 v) := by
    obtain ⟨_, _, ⟨nx, hh, _, r, _⟩, _⟩ := h
    exact ⟨_, cell3 r ha⟩
  obtain ⟨nxb, z3⟩ : ∃ v, w.cell? ⟨p, b * 4 + 3, none⟩ = some (.int .i64 v) := by
    obtain ⟨_, _, ⟨nx, hh, _, r, _⟩, _⟩ := h
    exact ⟨_, cell3 r hb⟩
  have y0 := h.top0
  have hg := h.lt
  have haz : (a : Int) < (G.N : Int) := by omega
  have hbz : (b : Int) < (G.N : Int) := by omega
  have k3 : ∀ t : T, t.isV = false → t.kind ≠ 4 → t.kind = 2 ∨ t.kind = 3 ∧ t.name = ⟨#[]⟩ := by
    intro t h1 h2
    cases t with
    | var => cases h1
    | con => exact .inl rfl
    | fn => exact .inr ⟨rfl, rfl⟩
    | all => exact absurd rfl h2
  have ka := k3 _ va (hG.three a ha)
  have kb := k3 _ vb (hG.three b hb)
  generalize hres : likeB G a b = res
  unfold likeB at hres
  generalize G.N = N at *
  generalize (G.ag a).length = la at *
  generalize (G.ag b).length = lb at *
  generalize (G.tr a).kind = kda at *
  generalize (G.tr b).kind = kdb at *
  generalize (G.tr a).name = na at *
  generalize (G.tr b).name = nb at *
  clear h
  by_cases e1 : kda = kdb
  · subst e1
    by_cases e2 : la = lb
    · subst e2
      rcases ka with rfl | ⟨rfl, rfl⟩
      · have hres : eqB na nb = res := by
          rw [← hres]
          by_cases e : na = nb
          · subst e; rw [eqB_true rfl]; simp
          · rw [eqB_false e]; simp [e]
        clear kb
        subst hres
        go_enter Tryd.func75, Tryd.ntmps75
        go_wp2
        go_region
        all_goals go_wp2
        all_goals go_ret
        all_goals exact ⟨by rw [← bytes_beq]; rfl, two_drew w _ _⟩
      · rcases kb with h | ⟨_, rfl⟩
        · cases h
        have hres : true = res := by rw [← hres]; simp
        subst hres
        go_enter Tryd.func75, Tryd.ntmps75
        go_wp2
        go_region
        all_goals go_wp2
        all_goals go_ret
        all_goals exact ⟨rfl, two_drew w _ _⟩
    · have hres : false = res := by rw [← hres]; simp [e2]
      subst hres
      have hz : (((la : Nat) : Int) != (lb : Int)) = true := by simp; omega
      go_enter Tryd.func75, Tryd.ntmps75
      go_wp2
      go_region
      all_goals go_wp2
      all_goals go_ret
      all_goals exact ⟨rfl, two_drew w _ _⟩
  · have hres : false = res := by rw [← hres]; simp [e1]
    subst hres
    have hz : (kda != kdb) = true := by simpa using e1
    go_enter Tryd.func75, Tryd.ntmps75
    go_wp2
    go_region
    all_goals go_wp2
    all_goals go_ret
    all_goals exact ⟨rfl, two_drew w _ _⟩
end Go.Proofs.YtdcfemojkdoakaaDoor
/- The program's graph: join, round by round. -/
namespace Go.Proofs.YtdcfemojkdoakaaDoor
open Go.RowKit Go.Maps
attribute [local go_sem] Oper.semAt_some

theorem least_nat {P : Nat → Prop} (h : ∃ n, P n) : ∃ m, P m ∧ ∀ k, P k → m ≤ k := by
  classical
  obtain ⟨n, hn⟩ := h
  induction n using Nat.strongRecOn with
  | ind n ih =>
    by_cases hk : ∃ k, k < n ∧ P k
    · obtain ⟨k, h1, h2⟩ := hk
      exact ih k h1 h2
    · exact ⟨n, hn, fun k hP => Nat.le_of_not_lt fun h => hk ⟨k, h, hP⟩⟩
open Classical in
/-- The least number of rounds. -/
noncomputable def muJ {α β : Type} (R : α → β → Nat → Prop) (a : α) (b : β) : Nat := if h : ∃ m, R a b m ∧ ∀ k, R a b k → m ≤ k then Classical.choose h else 0
theorem mu_at {α β : Type} {R : α → β → Nat → Prop} {a : α} {b : β} (h : ∃ n, R a b n) : R a b (muJ R a b) := by
  have h' := least_nat h
  unfold muJ; rw [dif_pos h']; exact (Classical.choose_spec h').1
theorem mu_le {α β : Type} {R : α → β → Nat → Prop} {a : α} {b : β} {n : Nat} (h : R a b n) : muJ R a b ≤ n := by
  have h' := least_nat ⟨n, h⟩
  unfold muJ; rw [dif_pos h']; exact (Classical.choose_spec h').2 n h

/-- Where join stands, so many rounds before its end. -/
structure JT (B : Nat) (G : Gr) (E g mb p cap : Nat) (sl : Nat → Value) (w0 : World) (fl : Bool) (rf rt : Nat → Nat) (ws : List Stp) (c : Nat) (v : Value) (wr : World) (n : Nat) : Prop where
  gm : GM B G rt E c g mb (.slice (some ⟨p, 0, none⟩) G.N cap) sl wr
  gi : GI G rt
  sk : SK G E rt ws
  stk : StkAt w0.heap.size v ws wr
  len : ws.length ≤ capM G E (G.N + E)
  ends : EndsIn G E (G.N + E) n rt ws c fl rf
  few : c ≤ G.N + E
  fr : Fr2 p g w0 wr
def JS (B : Nat) (G : Gr) (E g mb p cap : Nat) (sl : Nat → Value) (w0 : World) (fl : Bool) (rf : Nat → Nat) (v : Value) (wr : World) (n : Nat) : Prop := ∃ rt ws c, JT B G E g mb p cap sl w0 fl rf rt ws c v wr n
/-- What join tells. -/
def JoinR (B : Nat) (G : Gr) (E g mb p cap : Nat) (sl : Nat → Value) (w0 : World) (fl : Bool) (rf : Nat → Nat) (e : Ending) (w' : World) : Prop :=
  (e = .returned (.bool fl) ∧ ∃ c, c ≤ G.N + E ∧ GM B G rf E c g mb (.slice (some ⟨p, 0, none⟩) G.N cap) sl w') ∧ Fr2 p g w0 w'
section
variable {B : Nat} {G : Gr} {E g mb p cap : Nat} {sl : Nat → Value} {w0 : World} {fl : Bool} {rf rt : Nat → Nat} {c : Nat}
theorem StkAt.fr2 {Bs : Nat} {v : Value} {ws : List Stp} {w w' : World} (h : StkAt Bs v ws w) (hM : GM B G rt E c g mb (.slice (some ⟨p, 0, none⟩) G.N cap) sl w) (hk : Fr2 p g w w') : StkAt Bs v ws w' := by
  obtain ⟨cur, hc⟩ := hM.blk
  exact row_kept h fun k _ _ hh => (hk.2 k (Array.getElem?_eq_some_iff.1 hh).1 (by rintro rfl; rw [hc] at hh; cases hh) (by rintro rfl; rw [hM.top] at hh; cases hh)).trans hh
/-- Nothing is to be done still. -/
theorem JT.nil {v : Value} {wr : World} {n : Nat} (h : JT B G E g mb p cap sl w0 fl rf rt [] c v wr n) : fl = true ∧ rf = rt := by
  cases h.ends; exact ⟨rfl, rfl⟩
/-- It can't go on. -/
theorem JT.stop {v : Value} {wr : World} {n : Nat} {s : Stp} {ws : List Stp} (h : JT B G E g mb p cap sl w0 fl rf rt (s :: ws) c v wr n) (e : stepG G rt s ws = none) : fl = false ∧ rf = rt := by
  cases h.ends with
  | stop => exact ⟨rfl, rfl⟩
  | round _ rt' _ _ _ _ e2 => rw [e] at e2; cases e2
  | go _ _ rt' _ _ _ _ _ _ e2 => rw [e] at e2; cases e2
theorem JT.room {v : Value} {wr : World} {n : Nat} {s : Stp} {ws ws' : List Stp} {rt' : Nat → Nat} (h : JT B G E g mb p cap sl w0 fl rf rt (s :: ws) c v wr n) (e : stepG G rt s ws = some (rt', ws')) : ws'.length ≤ capM G E (G.N + E) := by
  cases h.ends with
  | stop _ _ _ _ e2 => rw [e] at e2; cases e2
  | round _ rt'' _ _ ws'' _ e2 h => rw [e] at e2; cases e2; exact h
  | go _ _ rt'' _ _ _ ws'' _ _ e2 h => rw [e] at e2; cases e2; exact h
/-- Behind a step, and behind goesRound. -/
theorem JT.tail {v v' : Value} {wr w5 w6 : World} {n : Nat} {s : Stp} {ws ws' : List Stp} {rt' : Nat → Nat} {r : Ending} (hE : ∀ i, i < G.N → (G.ag i).length ≤ E) (h : JT B G E g mb p cap sl w0 fl rf rt (s :: ws) c v wr n) (e : stepG G rt s ws = some (rt', ws'))
    (hM : GM B G rt' E c g mb (.slice (some ⟨p, 0, none⟩) G.N cap) sl w5) (hS : StkAt w0.heap.size v' ws' w5) (hF : Fr2 p g w0 w5) (hg : GoesR B G rt' E c g mb p cap sl w5 r w6) :
    (r = .returned (.bool true) ∧ fl = false ∧ JoinR B G E g mb p cap sl w0 fl rf (.returned (.bool false)) w6) ∨ (r = .returned (.bool false) ∧ ∃ m, m < n ∧ JS B G E g mb p cap sl w0 fl rf v' w6 m) := by
  classical
  obtain ⟨⟨g1, g2⟩, g3⟩ := hg
  obtain ⟨⟨i1, i2⟩, _, _⟩ := step_inv hE h.gi h.sk e
  have hcap := h.room e
  cases h.ends with
  | stop _ _ _ _ e2 => rw [e] at e2; cases e2
  | round _ rt'' _ _ ws'' _ e2 _ hc hA =>
    rw [e] at e2; cases e2
    left
    rw [if_neg (by omega)] at g1 g2
    have := decide_eq_false hA
    rw [this] at g1
    exact ⟨g1, rfl, ⟨rfl, 0, Nat.zero_le _, g2⟩, hF.trans g3⟩
  | go m _ rt'' _ _ _ ws'' _ _ e2 _ hk hm =>
    rw [e] at e2; cases e2
    right
    refine ⟨?_, m, Nat.lt_succ_self _, _, _, _, ⟨g2, i1, i2, hS.fr2 hM g3, hcap, hm, by split <;> omega, hF.trans g3⟩⟩
    rw [g1]
    by_cases hc : c + 1 ≤ G.N + E
    · rw [if_pos hc]
    · rw [if_neg hc]
      have hA := hk.resolve_left hc
      rw [decide_eq_true hA]; rfl
theorem rowS_get (l : List Stp) (s : Stp) (k : Nat) (hk : k < 3) : (rowS (l ++ [s]))[l.length * 3 + k]? = (encS s)[k]? := by
  rw [rowS_snoc, List.getElem?_append_right (by rw [rowS_len]; omega), rowS_len]
  congr 1; omega
/-- The next step, and the others. -/
theorem StkAt.top {Bs : Nat} {v : Value} {s : Stp} {ws : List Stp} {w : World} (h : StkAt Bs v (s :: ws) w) : ∃ q cp, v = .slice (some ⟨q, 0, none⟩) (ws.length + 1) cp ∧ q < w.heap.size ∧ Bs ≤ q ∧ ws.length + 1 ≤ cp ∧ (w.cell? ⟨q, ws.length * 3, none⟩ = some (.int .i64 (s.a : Int)) ∧ w.cell? ⟨q, ws.length * 3 + 1, none⟩ = some (.int .i64 (s.b : Int)) ∧ w.cell? ⟨q, ws.length * 3 + 2, none⟩ = some (.bool s.j)) ∧ StkAt Bs (.slice (some ⟨q, 0, none⟩) ws.length cp) ws w := by
  unfold StkAt at h
  rw [List.length_cons, List.reverse_cons] at h
  have hl := rowS_len ws.reverse
  rw [List.length_reverse] at hl
  rcases h.2 with ⟨_, e⟩ | ⟨q, cp, cur, rfl, hb, hq, hc, _⟩
  · omega
  · have hg : ∀ k, k < 3 → w.cell? ⟨q, ws.length * 3 + k, none⟩ = (encS s)[k]? := fun k hk => by
      rw [h.cellAt (ws.length * 3 + k) (by omega), ← rowS_get ws.reverse s k hk, List.length_reverse]
    refine ⟨q, cp, rfl, (Array.getElem?_eq_some_iff.1 hq).1, hb, hc, ⟨hg 0 (by omega), hg 1 (by omega), hg 2 (by omega)⟩, ?_⟩
    rw [rowS_snoc] at h
    exact ownsRow_pop hl h
end
end Go.Proofs.YtdcfemojkdoakaaDoor
/- The program's graph: join. -/
namespace Go.Proofs.YtdcfemojkdoakaaDoor
open Go.RowKit Go.Maps
attribute [local go_sem] Oper.semAt_some

theorem Fr2.of_below {p g : Nat} {w v : World} (h : Below w.heap.size w v) : Fr2 p g w v := ⟨h.mono (Nat.zero_le _), fun k hk _ _ => h.block k hk⟩
theorem Fr.of_drew {p : Nat} {w v : World} (h : Fr p w.drew v) : Fr p w v := ⟨(Below.refl 0 w).drew.trans h.1, h.2⟩
set_option maxRecDepth 100000 in
set_option maxHeartbeats 8000000 in
theorem join_any {B : Nat} {G : Gr} {rt : Nat → Nat} {E c g mb p cap i j n : Nat} {sl : Nat → Value} {fl : Bool} {rf : Nat → Nat} {w : World} (h : GM B G rt E c g mb (.slice (some ⟨p, 0, none⟩) G.N cap) sl w) (gi : GI G rt) (hE : ∀ i, i < G.N → (G.ag i).length ≤ E) (hN : G.N ≤ 1000000) (hE2 : E ≤ 1000000) (hi : i < G.N) (hj : j < G.N) (hc : c ≤ G.N + E) (he : EndsIn G E (G.N + E) n rt [⟨i, j, false⟩] c fl rf) :
    Calls Tryd.prog 47 #[gp g, .int .i64 (i : Int), .int .i64 (j : Int)] w fun e w' => JoinR B G E g mb p cap sl w fl rf e w' := by
  have hcap : capM G E (G.N + E) ≤ 4000000000000 := by
    unfold capM
    have h1 : (G.N + (G.N + E) + 2) * (E + 1) ≤ 3000002 * 1000001 := Nat.mul_le_mul (by omega) (by omega)
    omega
  have hbl := (Below.refl _ w).alloc (Nat.le_refl _) (.cells #[.int .i64 (i : Int), .int .i64 (j : Int), .bool false] 124)
  have hS0 : StkAt w.heap.size (.slice (some ⟨w.heap.size, 0, none⟩) 1 1) [⟨i, j, false⟩] (w.alloc (.cells #[.int .i64 (i : Int), .int .i64 (j : Int), .bool false] 124)) :=
    World.ownsRow_lit (base := w.heap.size) (size := 3) (e := 124) w #[.int .i64 (i : Int), .int .i64 (j : Int), .bool false] 1 (Nat.le_refl _) (by unfold maxLen; omega) rfl
  have HS0 := Lib.hid (⟨n, rt, [⟨i, j, false⟩], c, ⟨h.keep hbl, gi, ⟨⟨⟨hi, hj, fun h => (by cases h)⟩, trivial⟩, ⟨fun t ht => (by cases ht), trivial⟩, ⟨by simp, trivial⟩⟩, hS0, by unfold capM; simp, he, hc, (Fr2.refl p g w).below_fr hbl⟩⟩ : ∃ n, JS B G E g mb p cap sl w fl rf (.slice (some ⟨w.heap.size, 0, none⟩) 1 1) (w.alloc (.cells #[.int .i64 (i : Int), .int .i64 (j : Int), .bool false] 124)) n)
  clear h gi hi hj hc he hS0 hbl
  go_enter Tryd.func47, Tryd.ntmps47
  go_wp2
  go_loopw [7] (fun vw wr => ∃ (a : Option Addr) (n cp : Nat), vw = .slice a n cp ∧ Hid (∃ k, JS B G E g mb p cap sl w fl rf (.slice a n cp) wr k)) (fun vw wr => muJ (JS B G E g mb p cap sl w fl rf) vw wr)
  case atStart => exact ⟨_, _, _, rfl, HS0⟩
  case round =>
    obtain ⟨a, n, cp, rfl, hX⟩ := hrel
    have hJ := mu_at hX.out
    generalize hmu : muJ (JS B G E g mb p cap sl w fl rf) (.slice a n cp) wr = k at hJ
    have HMu := Lib.hid hmu
    obtain ⟨rt, ws, c, hT⟩ := hJ
    cases ws with
    | nil =>
      obtain ⟨rfl, rfl⟩ := hT.nil
      obtain ⟨_, _, e⟩ := row_slice hT.stk
      cases e
      have HT := Lib.hid hT
      clear hT hmu hX HMu
      go_wp2
      go_ret
      exact ⟨⟨rfl, c, HT.out.few, HT.out.gm⟩, HT.out.fr⟩
    | cons s ws =>
      obtain ⟨q, cp, e, lq, hbq, hcp, ⟨x0, x1, x2⟩, hpop⟩ := hT.stk.top
      cases e
      obtain ⟨sa, sb, sj⟩ := s
      have hwl : ws.length < 4000000000000 := by have := hT.len; simp at this; omega
      have hwz : (ws.length : Int) < (ws.length : Int) + 1 := by omega
      have HT := Lib.hid hT; have HP := Lib.hid hpop
      clear hmu hX hT hpop
      go_wp2
      have hbx := alloc_new wr (.cells #[.int .i64 (sa : Int), .int .i64 (sb : Int), .bool sj] 124)
      have hbb := (Below.refl _ wr).alloc (Nat.le_refl _) (.cells #[.int .i64 (sa : Int), .int .i64 (sb : Int), .bool sj] 124)
      obtain ⟨W1, hW1⟩ : ∃ W1, wr.alloc (.cells #[.int .i64 (sa : Int), .int .i64 (sb : Int), .bool sj] 124) = W1 := ⟨_, rfl⟩
      rw [hW1] at hbx hbb ⊢
      obtain ⟨z0, z1, z2⟩ := three_cells hbx
      have HM1 := Lib.hid (HT.out.gm.keep hbb)
      have hps := (HT.out.gm.blk).choose_spec
      have hpl : p < wr.heap.size := (Array.getElem?_eq_some_iff.1 hps).1
      have HBX := Lib.hid hbx; have HBB := Lib.hid hbb
      have hla := HT.out.sk.1.1.1
      have hlb := HT.out.sk.1.1.2.1
      have HC := Lib.hid (fun (x : Nat) (hx : x < G.N) (W : World) (hM : GM B G rt E c g mb (.slice (some ⟨p, 0, none⟩) G.N cap) sl W) => root_any hM hx)
      clear hW1 hbx hbb hps x0 x1 x2
      have hla' : sa < G.N := hla
      have hlb' : sb < G.N := hlb
      clear hla hlb
      have HC1 := Lib.hid (root_any HM1.out.drew hla')
      have hbxl := (Array.getElem?_eq_some_iff.1 HBX.out).1
      have hbxp : wr.heap.size ≠ p := by omega
      go_cut [10, 11] from 29 to 36 (fun va vb W => (va = .int .i64 (rt sa : Nat) ∧ vb = .int .i64 (rt sb : Nat)) ∧ Hid (GM B G rt E c g mb (.slice (some ⟨p, 0, none⟩) G.N cap) sl W ∧ Fr p W1 W))
      case first =>
        clear HT HP HMu HS0 hcap
        go_region_with (first
          | (go_at_call 73; refine (HC.out sb hlb' _ HM3.out).mono ?_; rintro e w4 ⟨rfl, hM4, hF4⟩; have HM4 := Lib.hid hM4; have HF4 := Lib.hid (HF3.out.trans hF4); clear hM4 hF4)
          | (go_at_call 73; refine HC1.out.mono ?_; rintro e w3 ⟨rfl, hM3, hF3⟩; have HM3 := Lib.hid hM3; have HF3 := Lib.hid hF3.of_drew; have HX3 := Lib.hid ((HF3.out.2 _ hbxl hbxp).trans HBX.out); obtain ⟨q0, q1, q2⟩ := three_cells HX3.out; clear hM3 hF3))
        all_goals
          go_wp2_with fail
          go_meet
          exact ⟨⟨rfl, rfl⟩, Lib.hid ⟨HM4.out, HF4.out⟩⟩
      case rest =>
        obtain ⟨⟨rfl, rfl⟩, hMF⟩ := hcut
        obtain ⟨hM5, hF⟩ := hMF.out
        have hxb := (hF.2 _ hbxl hbxp).trans HBX.out
        obtain ⟨q0, q1, q2⟩ := three_cells hxb
        have hF5 : Fr2 p g w _ := HT.out.fr.trans ((Fr2.of_below HBB.out).trans (hF.two g))
        have hS5 := (HP.out.keep HBB.out).fr2 HM1.out (hF.two g)
        have hgi := HT.out.gi
        have la := hgi.lt sa hla'
        have lb := hgi.lt sb hlb'
        have ra := hgi.fix sa hla'
        have rb := hgi.fix sb hlb'
        have hsz := hF5.1.size
        have hN0 : 0 < G.N := by omega
        have hE6 : ∀ i, i < G.N → (G.ag i).length ≤ 1000000 := fun i hi => Nat.le_trans (hE i hi) hE2
        have hc6 : c ≤ 1000000000 := by have := HT.out.few; omega
        have HTl := Lib.hid (fun (v' : Value) (w5 w6 : World) (ws' : List Stp) (rt' : Nat → Nat) (r : Ending) (e : stepG G rt ⟨sa, sb, sj⟩ ws = some (rt', ws')) hM hS hF hg => HT.out.tail (v' := v') (w5 := w5) (w6 := w6) (r := r) hE e hM hS hF hg)
        clear z0 z1 z2 hMF HC HC1 hF
        by_cases he : rt sa = rt sb
        · have e : stepG G rt ⟨sa, sb, sj⟩ ws = some (rt, ws) := by unfold stepG; rw [if_pos he]
          have hez : (((rt sa : Nat) : Int) == ((rt sb : Nat) : Int)) = true := by simp; omega
          have HStep := Lib.hid e; have HM9 := Lib.hid hM5; have HS9 := Lib.hid hS5; have HF9 := Lib.hid hF5
          have HG := Lib.hid (goes_any hM5 hgi hE6 hN hN0 hE2 hc6)
          clear e hM5 hS5 hF5 hgi hE6
          go_wp2_with (go_at_call 77; refine HG.out.mono ?_)
          rintro r w6 hg6
          rcases HTl.out _ _ _ _ _ _ HStep.out HM9.out HS9.out HF9.out hg6 with ⟨rfl, rfl, hR⟩ | ⟨rfl, m, hm, hJ⟩
          · have HR := Lib.hid hR
            clear hR hg6
            go_wp2
            go_ret
            exact ⟨⟨rfl, HR.out.1.2⟩, HR.out.2⟩
          · have HJ := Lib.hid hJ
            have HSh := Lib.hid HS9.out
            clear hg6 hJ
            go_wp2
            go_roundw
            case rel => exact ⟨_, _, _, rfl, Lib.hid ⟨m, HJ.out⟩⟩
            case measure =>
              have h1 := mu_le HJ.out
              have h2 := HMu.out
              show muJ _ _ _ < muJ _ _ _
              rw [h2]; exact Nat.lt_of_le_of_lt h1 hm
        · have hez : (((rt sa : Nat) : Int) == ((rt sb : Nat) : Int)) = false := by simp; omega
          have hM6 := Lib.hid hM5
          cases sj with
          | true =>
            have e : stepG G rt ⟨sa, sb, true⟩ ws = some (un rt (rt sa) (rt sb), ws) := by unfold stepG; rw [if_neg he, if_pos (Or.inl rfl)]
            obtain ⟨_, _, ⟨nx, hh, Wy, r0, s0⟩, _⟩ := hM5
            have hne : rt sa ≠ rt sb := he
            obtain ⟨t1, t2, _, _⟩ := GM.set hM6.out r0 s0 la (Wy.un la lb ra rb hne)
            have f3 := r0.frozenAt (rt sa * 4 + 3)
            have x3 := cell3 r0 la
            obtain ⟨hpl5, hcap5, _⟩ := hM6.out.part la
            have y0 := hM6.out.top0
            have hg5 := hM6.out.lt
            have haz : ((rt sa : Nat) : Int) < (G.N : Int) := by omega
            obtain ⟨⟨gi2, _⟩, _, _⟩ := step_inv hE hgi HT.out.sk e
            have HStep := Lib.hid e; have HM9 := Lib.hid t1; have HS9 := Lib.hid (hS5.fr2 hM6.out (t2.two g)); have HF9 := Lib.hid (hF5.trans (t2.two g))
            have HG := Lib.hid (goes_any t1 gi2 hE6 hN hN0 hE2 hc6)
            clear e hS5 hF5 hgi hE6 r0 s0 t1 t2 Wy gi2
            go_wp2_with (go_at_call 77; refine HG.out.mono ?_)
            rintro r w6 hg6
            rcases HTl.out _ _ _ _ _ _ HStep.out HM9.out HS9.out HF9.out hg6 with ⟨rfl, rfl, hR⟩ | ⟨rfl, m, hm, hJ⟩
            · have HR := Lib.hid hR
              clear hR hg6
              go_wp2
              go_ret
              exact ⟨⟨rfl, HR.out.1.2⟩, HR.out.2⟩
            · have HJ := Lib.hid hJ
              have HSh := Lib.hid HS9.out
              clear hg6 hJ
              go_wp2
              go_roundw
              case rel => exact ⟨_, _, _, rfl, Lib.hid ⟨m, HJ.out⟩⟩
              case measure =>
                have h1 := mu_le HJ.out
                have h2 := HMu.out
                show muJ _ _ _ < muJ _ _ _
                rw [h2]; exact Nat.lt_of_le_of_lt h1 hm
          | false =>
            cases va : (G.tr (rt sa)).isV with
            | true =>
              have e : stepG G rt ⟨sa, sb, false⟩ ws = some (un rt (rt sa) (rt sb), ws) := by unfold stepG; rw [if_neg he, if_pos (Or.inr va)]
              obtain ⟨_, _, ⟨nx, hh, Wy, r0, s0⟩, _⟩ := hM5
              have hne : rt sa ≠ rt sb := he
              obtain ⟨t1, t2, _, _⟩ := GM.set hM6.out r0 s0 la (Wy.un la lb ra rb hne)
              have f3 := r0.frozenAt (rt sa * 4 + 3)
              have x3 := cell3 r0 la
              obtain ⟨hpl5, hcap5, _⟩ := hM6.out.part la
              have y0 := hM6.out.top0
              have hg5 := hM6.out.lt
              have haz : ((rt sa : Nat) : Int) < (G.N : Int) := by omega
              obtain ⟨⟨gi2, _⟩, _, _⟩ := step_inv hE hgi HT.out.sk e
              have HStep := Lib.hid e; have HM9 := Lib.hid t1; have HS9 := Lib.hid (hS5.fr2 hM6.out (t2.two g)); have HF9 := Lib.hid (hF5.trans (t2.two g))
              have HG := Lib.hid (goes_any t1 gi2 hE6 hN hN0 hE2 hc6)
              clear e hS5 hF5 hgi hE6 r0 s0 t1 t2 Wy gi2
              have HV := Lib.hid (isVar_any hM6.out la)
              rw [va] at HV
              go_wp2_with (go_at_call 74; refine HV.out.mono ?_)
              rintro r w5 ⟨rfl, rfl⟩
              go_wp2_with (go_at_call 77; refine HG.out.mono ?_)
              rintro r w6 hg6
              rcases HTl.out _ _ _ _ _ _ HStep.out HM9.out HS9.out HF9.out hg6 with ⟨rfl, rfl, hR⟩ | ⟨rfl, m, hm, hJ⟩
              · have HR := Lib.hid hR
                clear hR hg6
                go_wp2
                go_ret
                exact ⟨⟨rfl, HR.out.1.2⟩, HR.out.2⟩
              · have HJ := Lib.hid hJ
                have HSh := Lib.hid HS9.out
                clear hg6 hJ
                go_wp2
                go_roundw
                case rel => exact ⟨_, _, _, rfl, Lib.hid ⟨m, HJ.out⟩⟩
                case measure =>
                  have h1 := mu_le HJ.out
                  have h2 := HMu.out
                  show muJ _ _ _ < muJ _ _ _
                  rw [h2]; exact Nat.lt_of_le_of_lt h1 hm
            | false =>
              have HV := Lib.hid (isVar_any hM6.out la)
              rw [va] at HV
              have hcn : ¬ ((⟨sa, sb, false⟩ : Stp).j = true ∨ (G.tr (rt sa)).isV = true) := fun h => h.elim (fun h => by cases h) (fun h => by rw [va] at h; cases h)
              cases vb : (G.tr (rt sb)).isV with
              | true =>
                have e : stepG G rt ⟨sa, sb, false⟩ ws = some (un rt (rt sb) (rt sa), ws) := by unfold stepG; rw [if_neg he, if_neg hcn, if_pos vb]
                obtain ⟨_, _, ⟨nx, hh, Wy, r0, s0⟩, _⟩ := hM5
                have hne : rt sb ≠ rt sa := fun e => he e.symm
                obtain ⟨t1, t2, _, _⟩ := GM.set hM6.out r0 s0 lb (Wy.un lb la rb ra hne)
                have f3 := r0.frozenAt (rt sb * 4 + 3)
                have x3 := cell3 r0 lb
                obtain ⟨hpl5, hcap5, _⟩ := hM6.out.part lb
                have y0 := hM6.out.top0
                have hg5 := hM6.out.lt
                have haz : ((rt sb : Nat) : Int) < (G.N : Int) := by omega
                obtain ⟨⟨gi2, _⟩, _, _⟩ := step_inv hE hgi HT.out.sk e
                have HStep := Lib.hid e; have HM9 := Lib.hid t1; have HS9 := Lib.hid (hS5.fr2 hM6.out (t2.two g)); have HF9 := Lib.hid (hF5.trans (t2.two g))
                have HG := Lib.hid (goes_any t1 gi2 hE6 hN hN0 hE2 hc6)
                clear e hS5 hF5 hgi hE6 r0 s0 t1 t2 Wy gi2
                have HV2 := Lib.hid (isVar_any hM6.out lb)
                rw [vb] at HV2
                clear hcn va vb
                go_wp2_with (go_at_call 74; refine HV.out.mono ?_)
                rintro r w5 ⟨rfl, rfl⟩
                go_wp2_with (go_at_call 74; refine HV2.out.mono ?_)
                rintro r w5 ⟨rfl, rfl⟩
                go_wp2_with (go_at_call 77; refine HG.out.mono ?_)
                rintro r w6 hg6
                rcases HTl.out _ _ _ _ _ _ HStep.out HM9.out HS9.out HF9.out hg6 with ⟨rfl, rfl, hR⟩ | ⟨rfl, m, hm, hJ⟩
                · have HR := Lib.hid hR
                  clear hR hg6
                  go_wp2
                  go_ret
                  exact ⟨⟨rfl, HR.out.1.2⟩, HR.out.2⟩
                · have HJ := Lib.hid hJ
                  have HSh := Lib.hid HS9.out
                  clear hg6 hJ
                  go_wp2
                  go_roundw
                  case rel => exact ⟨_, _, _, rfl, Lib.hid ⟨m, HJ.out⟩⟩
                  case measure =>
                    have h1 := mu_le HJ.out
                    have h2 := HMu.out
                    show muJ _ _ _ < muJ _ _ _
                    rw [h2]; exact Nat.lt_of_le_of_lt h1 hm
              | false =>
                have HV2 := Lib.hid (isVar_any hM6.out lb)
                rw [vb] at HV2
                have HL := Lib.hid (alike_any hM6.out hgi.ok la lb va vb)
                have hvb : ¬ (G.tr (rt sb)).isV = true := by rw [vb]; decide
                cases lk : likeB G (rt sa) (rt sb) with
                | true =>
                  have e : stepG G rt ⟨sa, sb, false⟩ ws = some (rt, pairsU (G.ag (rt sa)) (G.ag (rt sb)) ++ ⟨rt sa, rt sb, true⟩ :: ws) := by unfold stepG; rw [if_neg he, if_neg hcn, if_neg hvb, if_pos lk]
                  rw [lk] at HL
                  have hll : (G.ag (rt sa)).length = (G.ag (rt sb)).length := by unfold likeB at lk; exact (of_decide_eq_true lk).2.2
                  have hag := hE6 _ la
                  have HStep := Lib.hid e; have HS7 := Lib.hid hS5; have HF7 := Lib.hid hF5; have HGi := Lib.hid hgi
                  clear e hS5 hF5 hM5 lk hcn hvb va vb
                  go_wp2_with (go_at_call 74; refine HV.out.mono ?_)
                  rintro r w5 ⟨rfl, rfl⟩
                  go_wp2_with (go_at_call 74; refine HV2.out.mono ?_)
                  rintro r w5 ⟨rfl, rfl⟩
                  go_wp2_with (go_at_call 75; refine HL.out.mono ?_)
                  rintro r w5 ⟨rfl, hb5⟩
                  have HM7 := Lib.hid (hM6.out.keep hb5)
                  have HP7 := Lib.hid (push_any HM7.out la lb hll (HS7.out.keep hb5) (Nat.le_trans hsz hb5.size) (by omega))
                  have HB7 := Lib.hid hb5
                  clear hb5 HL
                  go_wp2_with (go_at_call 76; refine HP7.out.mono ?_)
                  rintro r w7 ⟨v7, rfl, hS8, hK8, hB8⟩
                  obtain ⟨a7, n7, c7, rfl⟩ : ∃ a n c, v7 = .slice a n c := by
                    obtain ⟨a, c, e⟩ := row_slice hS8
                    exact ⟨a, _, c, e⟩
                  have HM9 := Lib.hid (HM7.out.keepS hK8 (hB8.mono (Nat.zero_le _)))
                  have HS9 := Lib.hid hS8
                  have HF9 := Lib.hid (HF7.out.below_fr ((HB7.out.mono hsz).trans hB8))
                  have HG := Lib.hid (goes_any HM9.out HGi.out hE6 hN hN0 hE2 hc6)
                  clear hS8 hK8 hB8 HP7 hE6
                  go_wp2_with (go_at_call 77; refine HG.out.mono ?_)
                  rintro r w6 hg6
                  rcases HTl.out _ _ _ _ _ _ HStep.out HM9.out HS9.out HF9.out hg6 with ⟨rfl, rfl, hR⟩ | ⟨rfl, m, hm, hJ⟩
                  · have HR := Lib.hid hR
                    clear hR hg6
                    go_wp2
                    go_ret
                    exact ⟨⟨rfl, HR.out.1.2⟩, HR.out.2⟩
                  · have HJ := Lib.hid hJ
                    have HSh := Lib.hid HS9.out
                    clear hg6 hJ
                    go_wp2
                    go_roundw
                    case rel => exact ⟨_, _, _, rfl, Lib.hid ⟨m, HJ.out⟩⟩
                    case measure =>
                      have h1 := mu_le HJ.out
                      have h2 := HMu.out
                      show muJ _ _ _ < muJ _ _ _
                      rw [h2]; exact Nat.lt_of_le_of_lt h1 hm
                | false =>
                  have e : stepG G rt ⟨sa, sb, false⟩ ws = none := by unfold stepG; rw [if_neg he, if_neg hcn, if_neg hvb, if_neg (by rw [lk]; decide)]
                  rw [lk] at HL
                  have HStop := Lib.hid (HT.out.stop e)
                  have HF7 := Lib.hid hF5
                  clear e hS5 hF5 hM5 lk hcn hvb va vb
                  go_wp2_with (go_at_call 74; refine HV.out.mono ?_)
                  rintro r w5 ⟨rfl, rfl⟩
                  go_wp2_with (go_at_call 74; refine HV2.out.mono ?_)
                  rintro r w5 ⟨rfl, rfl⟩
                  go_wp2_with (go_at_call 75; refine HL.out.mono ?_)
                  rintro r w5 ⟨rfl, hb5⟩
                  have HM7 := Lib.hid (hM6.out.keep hb5)
                  have HF8 := Lib.hid (HF7.out.below_fr (hb5.mono hsz))
                  clear hb5
                  go_wp2
                  go_ret
                  exact ⟨⟨by rw [HStop.out.1]; rfl, c, HT.out.few, by rw [HStop.out.2]; exact HM7.out⟩, HF8.out⟩
end Go.Proofs.YtdcfemojkdoakaaDoor
/- The document's get: the first of a name. -/
namespace Go.Proofs.YtdcfemojkdoakaaDoor
open Go.RowKit Go.Sort Go.Lib
attribute [local go_sem] Oper.semAt_some

theorem RowG.lt {T : TypeId} {g : Nat} {l : List PR} {w : World} (h : RowG T g l w) : g < w.heap.size := by
  obtain ⟨cs, h1, _⟩ := h; exact (Array.getElem?_eq_some_iff.1 h1).1
theorem RowG.same {T : TypeId} {g : Nat} {l : List PR} {w w' : World} (h : RowG T g l w) (k : w'.heap[g]? = w.heap[g]?) : RowG T g l w' := by
  obtain ⟨cs, h1, h2⟩ := h; exact ⟨cs, k.trans h1, h2⟩
theorem RowG.below {T : TypeId} {g : Nat} {l : List PR} {w w' : World} (h : RowG T g l w) (k : Below w.heap.size w w') : RowG T g l w' := h.same (k.block g h.lt)
theorem RowG.cells {T : TypeId} {g : Nat} {l : List PR} {w : World} (h : RowG T g l w) {i : Nat} (hi : i < l.length) :
    w.cell? ⟨g, i * 4, none⟩ = some (.string (l.getD i noP).n) ∧ w.cell? ⟨g, i * 4 + 1, none⟩ = some (.int .i64 (l.getD i noP).t.kind) ∧ w.cell? ⟨g, i * 4 + 2, none⟩ = some (.string (l.getD i noP).t.name) ∧ w.cell? ⟨g, i * 4 + 3, none⟩ = some (.slice (l.getD i noP).a (l.getD i noP).t.kids.length (l.getD i noP).c) := by
  obtain ⟨cs, h1, _, h3⟩ := h
  rw [Lib.cell_of_heap h1, Lib.cell_of_heap h1, Lib.cell_of_heap h1, Lib.cell_of_heap h1]
  exact h3 i hi
theorem GivenG.shape {T : TypeId} {v : Value} {d : List PR} {w : World} (h : GivenG T v d w) : ∃ a c, v = .slice a d.length c ∧ ∀ i, i < d.length → ∃ g, a = some ⟨g, 0, none⟩ ∧ RowG T g d w := by
  rcases h with ⟨rfl, rfl⟩ | ⟨_, g, cap, rfl, hr⟩
  · exact ⟨none, 0, rfl, fun i hi => absurd hi (Nat.not_lt_zero _)⟩
  · exact ⟨_, cap, rfl, fun i _ => ⟨g, rfl, hr⟩⟩
theorem GivenG.below {T : TypeId} {v : Value} {d : List PR} {w w' : World} (h : GivenG T v d w) (hb : Below w.heap.size w w') : GivenG T v d w' := by
  rcases h with h | ⟨h0, g, cap, e, hr⟩
  · exact .inl h
  · exact .inr ⟨h0, g, cap, e, hr.below hb⟩
theorem lk_ahead (n : ByteArray) : ∀ (l : List PR) (i : Nat), i < l.length → (∀ j, j < i → (l.getD j noP).n ≠ n) → (l.getD i noP).n = n → lk n l = some (l.getD i noP)
  | [], i, hi, _, _ => absurd hi (Nat.not_lt_zero _)
  | x :: l, 0, _, _, h => by rw [lk_cons]; exact if_pos h
  | x :: l, i + 1, hi, ha, h => by
    rw [lk_cons, if_neg (show ¬ x.n = n from ha 0 (Nat.succ_pos _))]
    exact lk_ahead n l i (by simpa using hi) (fun j hj => ha (j + 1) (by omega)) h
theorem lk_none (n : ByteArray) : ∀ (l : List PR), (∀ j, j < l.length → (l.getD j noP).n ≠ n) → lk n l = none
  | [], _ => rfl
  | x :: l, ha => by
    rw [lk_cons, if_neg (show ¬ x.n = n from ha 0 (Nat.succ_pos _))]
    exact lk_none n l (fun j hj => ha (j + 1) (by simpa using hj))

theorem next_none {d : List PR} {n : ByteArray} {i : Nat} (hA : ∀ j, j < i → (d.getD j noP).n ≠ n) (h : (d.getD i noP).n ≠ n) : ∀ j, j < i + 1 → (d.getD j noP).n ≠ n := by
  intro j hj
  by_cases e : j = i
  · rw [e]; exact h
  · exact hA j (by omega)
set_option maxRecDepth 100000 in
set_option maxHeartbeats 2000000 in
theorem rget_any (v : Value) (d : List PR) (n : ByteArray) (w : World) (h : GivenG 73 v d w) (hl : d.length < 1152921504606846976) :
    Calls Tryd.prog 46 #[v, .string n] w fun e w' => e = .returned (.tuple #[fv' (lk n d), .bool (lk n d).isSome]) ∧ Below w.heap.size w w' := by
  obtain ⟨a, c, rfl, hr⟩ := h.shape
  have HR := Lib.hid hr
  have HB0 := Lib.hid (fun o => (Below.refl _ w).alloc (Nat.le_refl _) o)
  clear h hr
  obtain ⟨res, hres⟩ : ∃ r, lk n d = r := ⟨_, rfl⟩
  have HRes := Lib.hid hres
  rw [hres]
  clear hres
  go_enter Tryd.func46, Tryd.ntmps46
  go_wp2
  go_loopw [6] (fun vi wr => ∃ i : Nat, i ≤ d.length ∧ vi = .int .i64 i ∧ Hid (∀ j, j < i → (d.getD j noP).n ≠ n) ∧ Hid (Below w.heap.size w wr) ∧ Hid (wr.heap[w.heap.size]? = some (.cells #[.int .i64 0, .string ⟨#[]⟩, .slice none 0 0] 29 (0, 0)))) (fun vi _ => d.length - (intOf vi).toNat)
  case atStart => exact ⟨0, Nat.zero_le _, rfl, Lib.hid (fun j hj => absurd hj (Nat.not_lt_zero _)), Lib.hid (HB0.out _), Lib.hid (alloc_new w _)⟩
  case round =>
    obtain ⟨i, hi, rfl, hA, hB, hZ⟩ := hrel
    obtain ⟨z0, z1, z2⟩ := three_cells hZ.out
    have u0 := Lib.frozen_of_heap hZ.out 0
    have u1 := Lib.frozen_of_heap hZ.out 1
    have u2 := Lib.frozen_of_heap hZ.out 2
    have lz := (Array.getElem?_eq_some_iff.1 hZ.out).1
    by_cases hlt : i < d.length
    · obtain ⟨g, rfl, hr⟩ := HR.out i hlt
      obtain ⟨x0, x1, x2, x3⟩ := (hr.below hB.out).cells hlt
      have hiz : (i : Int) < (d.length : Int) := by omega
      have HN := Lib.hid (fun h => lk_ahead n d i hlt hA.out h)
      have HE := Lib.hid (next_none (d := d) (n := n) hA.out)
      clear hr HR
      generalize d.getD i noP = x at x0 x1 x2 x3 HN HE
      by_cases hq : x.n = n
      · have hqB : (x.n.toList == n.toList) = true := by rw [bytes_beq]; exact eqB_true hq
        have hs : res = some x := by rw [← HRes.out]; exact HN.out hq
        subst hs
        clear HRes HN HE hq
        go_wp2
        have hs3 := set3_block hZ.out (.int .i64 x.t.kind) (.string x.t.name) (.slice x.a x.t.kids.length x.c)
        have hc := three_cells hs3
        refine bodyPost_ret (v := .tuple #[.agg #[.int .i64 x.t.kind, .string x.t.name, .slice x.a x.t.kids.length x.c], .bool true]) (by simp [results, Tryd.results46, go_sem, hc.1, hc.2.1, hc.2.2]) rfl ⟨rfl, below_set3 hB.out (Nat.le_refl _) _ _ _⟩
      · have hqB : (x.n.toList == n.toList) = false := by rw [bytes_beq]; exact eqB_false hq
        have HQ := Lib.hid hq
        clear hq HN
        go_wp2
        go_roundw
        case rel => exact ⟨i + 1, by omega, by go_num, Lib.hid (HE.out HQ.out), hB, hZ⟩
        case measure => simp [intOf]; omega
    · obtain rfl : i = d.length := by omega
      have hs : res = none := by rw [← HRes.out]; exact lk_none n d hA.out
      subst hs
      clear HRes HR
      go_wp2
      have hs3 := set3_block hZ.out (.int .i64 0) (.string ⟨#[]⟩) (.slice none 0 0)
      have hc := three_cells hs3
      refine bodyPost_ret (v := .tuple #[.agg #[.int .i64 0, .string ⟨#[]⟩, .slice none 0 0], .bool false]) (by simp [results, Tryd.results46, go_sem, hc.1, hc.2.1, hc.2.2]) rfl ⟨rfl, below_set3 hB.out (Nat.le_refl _) _ _ _⟩
end Go.Proofs.YtdcfemojkdoakaaDoor
/- The document's Apply. -/
namespace Go.Proofs.YtdcfemojkdoakaaDoor
open Go.RowKit Go.Sort Go.Lib
attribute [local go_sem] Oper.semAt_some

/-- A type, where its row lies. -/
abbrev Tl := T × Option Addr × Nat
/-- The cells of a row of types. -/
def cellsOf (l : List Tl) : List Value := l.flatMap (fun x => [.int .i64 x.1.kind, .string x.1.name, .slice x.2.1 x.1.kids.length x.2.2])
theorem cellsOf_snoc (l : List Tl) (x : Tl) : cellsOf (l ++ [x]) = cellsOf l ++ [.int .i64 x.1.kind, .string x.1.name, .slice x.2.1 x.1.kids.length x.2.2] := by simp [cellsOf]
theorem cellsOf_cons (x : Tl) (l : List Tl) : cellsOf (x :: l) = [.int .i64 x.1.kind, .string x.1.name, .slice x.2.1 x.1.kids.length x.2.2] ++ cellsOf l := by simp [cellsOf]
theorem cellsOf_at (l : List Tl) (i : Nat) (h : i < l.length) : (cellsOf l)[i * 3]? = some (.int .i64 l[i].1.kind) ∧ (cellsOf l)[i * 3 + 1]? = some (.string l[i].1.name) ∧ (cellsOf l)[i * 3 + 2]? = some (.slice l[i].2.1 l[i].1.kids.length l[i].2.2) := by
  induction l generalizing i with
  | nil => cases h
  | cons x l ih =>
    rw [cellsOf_cons]
    cases i with
    | zero => exact ⟨rfl, rfl, rfl⟩
    | succ i =>
      have := ih i (by simpa using h)
      rw [show (i + 1) * 3 = i * 3 + 3 by omega, List.getElem?_append_right (by simp), List.getElem?_append_right (by simp), List.getElem?_append_right (by simp)]
      simp only [List.length_cons, List.length_nil, List.getElem_cons_succ]
      rw [show i * 3 + 3 - (0 + 1 + 1 + 1) = i * 3 by omega, show i * 3 + 3 + 1 - (0 + 1 + 1 + 1) = i * 3 + 1 by omega, show i * 3 + 3 + 2 - (0 + 1 + 1 + 1) = i * 3 + 2 by omega]
      exact this
/-- A row of types out of its cells, in blocks that are ok. -/
theorem in_of_row {ok : Nat → Prop} {W : World} {B : Nat} {v : Value} {xs : List Tl} {t : T} (ht : t.kids = xs.map (·.1)) (h : W.ownsRow B 29 3 v xs.length (cellsOf xs)) (hv : ∀ g, v.ownBlock = some g → ok g) (hk : ∀ x ∈ xs, TyIn ok W x.1 (.slice x.2.1 x.1.kids.length x.2.2)) : TyIn ok W t v := by
  have hlen : t.kids.length = xs.length := by rw [ht]; simp
  rcases h.2 with ⟨rfl, h0⟩ | ⟨g, cap, cur, rfl, _, hg, hc, _, hsz, htk⟩
  · exact .leaf t none 0 (List.length_eq_zero_iff.1 (hlen.trans h0))
  · have hat : ∀ j, j < xs.length * 3 → cur[j]? = (cellsOf xs)[j]? := fun j hj => by
      rw [← htk, List.getElem?_take, if_pos hj, Array.getElem?_toList]
    rw [← hlen]
    refine .row t g cap cur (0, 0) (fun i => if h : i < xs.length then .slice xs[i].2.1 xs[i].1.kids.length xs[i].2.2 else undef) (hv g rfl) hg (by omega) (fun i hi => ?_) (fun i hi => ?_)
    · have hi' : i < xs.length := by omega
      obtain ⟨e1, e2, e3⟩ := cellsOf_at xs i hi'
      have ek : t.kids[i] = xs[i].1 := by simp [ht]
      simp only [dif_pos hi', ek]
      exact ⟨(hat _ (by omega)).trans e1, (hat _ (by omega)).trans e2, (hat _ (by omega)).trans e3⟩
    · have hi' : i < xs.length := by omega
      have ek : t.kids[i] = xs[i].1 := by simp [ht]
      simp only [dif_pos hi', ek]
      exact hk _ (List.getElem_mem hi')
/-- A part of a row. -/
theorem TyIn.part {K : Nat → Prop} {X : World} {t : T} {a : Option Addr} {c : Nat} (h : TyIn K X t (.slice a t.kids.length c)) (i : Nat) (hi : i < t.kids.length) : ∃ g pa ca, a = some ⟨g, 0, none⟩ ∧ t.kids.length ≤ c ∧ ∀ W, KeepK K X W → (g < W.heap.size ∧ W.cell? ⟨g, i * 3, none⟩ = some (.int .i64 t.kids[i].kind) ∧ W.cell? ⟨g, i * 3 + 1, none⟩ = some (.string t.kids[i].name) ∧ W.cell? ⟨g, i * 3 + 2, none⟩ = some (.slice pa t.kids[i].kids.length ca)) ∧ TyIn K W t.kids[i] (.slice pa t.kids[i].kids.length ca) := by
  obtain ⟨v, hv⟩ : ∃ v, v = Value.slice a t.kids.length c := ⟨_, rfl⟩
  rw [← hv] at h
  cases h with
  | leaf _ _ _ h0 => rw [h0] at hi; cases hi
  | row _ g cap cs fz z h0 h1 h2 h3 h4 =>
    cases hv
    obtain ⟨pa, ca, e⟩ := (h4 i hi).shape
    obtain ⟨c1, c2, c3⟩ := h3 i hi
    rw [e] at c3
    refine ⟨g, pa, ca, rfl, h2, fun W hk => ?_⟩
    have hW := (hk g h0 (Array.getElem?_eq_some_iff.1 h1).1).trans h1
    refine ⟨⟨(Array.getElem?_eq_some_iff.1 hW).1, ?_, ?_, ?_⟩, ?_⟩
    · simp only [World.cell?, hW]; simpa using c1
    · simp only [World.cell?, hW]; simpa using c2
    · simp only [World.cell?, hW]; simpa using c3
    · rw [← e]; exact (h4 i hi).keepK hk

/-- The pairs that the document's Apply is handed: their types' rows lie ahead of N. -/
def Src4 (N : Nat) (v : Value) (d : List PR) (w : World) : Prop := GivenG 73 v d w ∧ (∀ x ∈ d, TyIn (fun k => k < N) w x.t (.slice x.a x.t.kids.length x.c)) ∧ N ≤ w.heap.size
theorem Src4.below {N : Nat} {v : Value} {d : List PR} {w W : World} (h : Src4 N v d w) (hb : Below w.heap.size w W) : Src4 N v d W :=
  ⟨h.1.below hb, fun x hx => (h.2.1 x hx).keep fun k _ _ hk hh => (hb.block k (by have := h.2.2; omega)).trans hh, Nat.le_trans h.2.2 hb.size⟩
def RApp (d : List PR) (t : T) : Prop := ∀ (N : Nat) (v : Value) (a : Option Addr) (c : Nat) (w : World), Src4 N v d w → TyIn (fun k => k < N) w t (.slice a t.kids.length c) → tsize t ≤ 1000000000 →
    Calls Tryd.prog 15 #[v, tyV t (.slice a t.kids.length c)] w fun e w' => (∃ a' c', e = .returned (tyV (app d t) (.slice a' (app d t).kids.length c')) ∧ TyIn (fun k => k < N ∨ w.heap.size ≤ k) w' (app d t) (.slice a' (app d t).kids.length c')) ∧ Below w.heap.size w w'

set_option maxRecDepth 100000 in
set_option maxHeartbeats 4000000 in
theorem rapp_var (d : List PR) (hl : d.length < 1000000) (n : ByteArray) : RApp d (.var n) := by
  intro N v a c w hs ht hz
  have HG := Lib.hid (fun (V : World) (hb : Below w.heap.size w V) => rget_any v d n V (hs.1.below hb) (by omega))
  have HS := Lib.hid hs
  obtain ⟨av, cv, rfl, _⟩ := hs.1.shape
  have HB2 := Lib.hid (fun o1 o2 => below_two w o1 o2)
  have e0 : (T.var n).kids.length = 0 := rfl
  have e1 : (T.var n).kind = 1 := rfl
  have e2 : (T.var n).name = n := rfl
  obtain ⟨res, hres⟩ : ∃ r, lk n d = r := ⟨_, rfl⟩
  have HRes := Lib.hid hres
  have hap : app d (.var n) = ((res.map PR.t).getD (.var n)) := by rw [app_v]; unfold ty; rw [hres]
  rw [hap]
  simp only [tyV, e0, e1, e2]
  clear hs ht hz hap e0 e1 e2
  rw [hres] at HG
  clear hres
  go_enter Tryd.func15, Tryd.ntmps15
  cases res with
  | none =>
    simp only [fv', Option.isSome_none, Option.map_none, Option.getD_none] at HG ⊢
    go_wp2_with (go_at_call 46; refine (HG.out _ (HB2.out _ _)).mono ?_)
    rintro e w2 ⟨rfl, hb2⟩
    have hbw : Below w.heap.size w w2 := (HB2.out _ _).trans (hb2.mono (by simp; omega))
    have hy := (hb2.block w.heap.size (by simp; omega)).trans ((Below.heap_alloc _ _ _ (by simp)).trans (alloc_new w _))
    have hz := (hb2.block (w.heap.size + 1) (by simp)).trans (new_two w _ _)
    obtain ⟨y0, y1, y2⟩ := three_cells hy
    obtain ⟨z0, z1, z2⟩ := three_cells hz
    have u0 := Lib.frozen_of_heap hz 0
    have u1 := Lib.frozen_of_heap hz 1
    have u2 := Lib.frozen_of_heap hz 2
    have ly := (Array.getElem?_eq_some_iff.1 hy).1
    have lz := (Array.getElem?_eq_some_iff.1 hz).1
    have HB := Lib.hid hbw
    have HZ := Lib.hid hz
    have lW : w.heap.size < w2.heap.size := by omega
    clear hb2 hbw hy hz HG
    go_wp2
    have hs3 := set3_block HZ.out (.int .i64 1) (.string n) (.slice a 0 c)
    have hc := three_cells ((Below.heap_alloc _ (.cells #[.int .i64 0, .string ⟨#[]⟩, .slice none 0 0] 29) _ (Array.getElem?_eq_some_iff.1 hs3).1).trans hs3)
    exact bodyPost_ret (v := .agg #[.int .i64 1, .string n, .slice a 0 c]) (by simp [results, Tryd.results15, go_sem, hc.1, hc.2.1, hc.2.2]) rfl ⟨⟨a, c, rfl, .leaf _ _ _ rfl⟩, (below_set3 HB.out (Nat.le_succ _) _ _ _).alloc (by have := HB.out.size; simp; omega) _⟩
  | some x =>
    simp only [fv', Option.isSome_some, Option.map_some, Option.getD_some] at HG ⊢
    have HX := Lib.hid (HS.out.2.1 x (lk_name HRes.out).1)
    have HN := Lib.hid HS.out.2.2
    go_wp2_with (go_at_call 46; refine (HG.out _ (HB2.out _ _)).mono ?_)
    rintro e w2 ⟨rfl, hb2⟩
    have hbw : Below w.heap.size w w2 := (HB2.out _ _).trans (hb2.mono (by simp; omega))
    have hy := (hb2.block w.heap.size (by simp; omega)).trans ((Below.heap_alloc _ _ _ (by simp)).trans (alloc_new w _))
    have hz := (hb2.block (w.heap.size + 1) (by simp)).trans (new_two w _ _)
    obtain ⟨y0, y1, y2⟩ := three_cells hy
    obtain ⟨z0, z1, z2⟩ := three_cells hz
    have u0 := Lib.frozen_of_heap hz 0
    have u1 := Lib.frozen_of_heap hz 1
    have u2 := Lib.frozen_of_heap hz 2
    have ly := (Array.getElem?_eq_some_iff.1 hy).1
    have lz := (Array.getElem?_eq_some_iff.1 hz).1
    have HB := Lib.hid hbw
    have HZ := Lib.hid hz
    have lW : w.heap.size < w2.heap.size := by omega
    clear hb2 hbw hy hz HG
    go_wp2
    have hs3 := set3_block HZ.out (.int .i64 x.t.kind) (.string x.t.name) (.slice x.a x.t.kids.length x.c)
    have hc := three_cells ((Below.heap_alloc _ (.cells #[.int .i64 x.t.kind, .string x.t.name, .slice x.a x.t.kids.length x.c] 29) _ (Array.getElem?_eq_some_iff.1 hs3).1).trans hs3)
    refine bodyPost_ret (v := .agg #[.int .i64 x.t.kind, .string x.t.name, .slice x.a x.t.kids.length x.c]) (by simp [results, Tryd.results15, go_sem, hc.1, hc.2.1, hc.2.2]) rfl ⟨⟨x.a, x.c, rfl, ?_⟩, (below_set3 HB.out (Nat.le_succ _) _ _ _).alloc (by have := HB.out.size; simp; omega) _⟩
    refine (HX.out.keep fun k _ _ hk hh => ?_).mono fun k hk => .inl hk
    have hkw : k < w.heap.size := Nat.lt_of_lt_of_le hk HN.out
    exact (Below.heap_alloc _ _ k (by simp; omega)).trans ((set3_others _ _ _ (by omega)).trans ((HB.out.block k hkw).trans hh))
end Go.Proofs.YtdcfemojkdoakaaDoor
/- The document's Apply, of all types. -/
namespace Go.Proofs.YtdcfemojkdoakaaDoor
open Go.RowKit Go.Sort Go.Lib
attribute [local go_sem] Oper.semAt_some

/-- One more at the row's end: what lay beside the row lies beside it still. -/
theorem beside_next {ok : Nat → Prop} {X w1 : World} {o : Obj} {s v' : Value} {g : Nat} {xs : List Tl} {x : Tl} (hx : ∀ y ∈ xs, TyIn (fun k => ok k ∧ some k ≠ s.ownBlock) X y.1 (.slice y.2.1 y.1.kids.length y.2.2)) (hnew : TyIn (fun k => ok k ∧ some k ≠ s.ownBlock) X x.1 (.slice x.2.1 x.1.kids.length x.2.2))
    (hg : (X.alloc o).grownBy w1 s.ownBlock) (hat : s.ownBlock = some g ∨ g = (X.alloc o).heap.size) (hv' : v'.ownBlock = some g) : ∀ y ∈ xs ++ [x], TyIn (fun k => ok k ∧ some k ≠ v'.ownBlock) w1 y.1 (.slice y.2.1 y.1.kids.length y.2.2) := by
  have key : ∀ {t : T} {v : Value}, TyIn (fun k => ok k ∧ some k ≠ s.ownBlock) X t v → TyIn (fun k => ok k ∧ some k ≠ v'.ownBlock) w1 t v := fun {t v} ht => by
    have hgk : ∀ k, some k ≠ s.ownBlock ∧ k < X.heap.size → k ≠ g := fun k hk e => by
      subst e
      rcases hat with e | e
      · exact hk.1 e.symm
      · have := hk.2; simp at e; omega
    refine (ht.lt.keep fun k cs fz hk hh => ?_).mono fun k hk => ⟨hk.1.1, by rw [hv']; exact fun e => hgk k ⟨hk.1.2, hk.2⟩ (by simpa using e)⟩
    exact (hg.block k (by simp; omega) hk.1.2).trans ((Below.heap_alloc X o k hk.2).trans hh)
  intro y hy
  rcases List.mem_append.1 hy with hy | hy
  · exact key (hx y hy)
  · rw [List.mem_singleton.1 hy]; exact key hnew
theorem cell_new3 (w : World) (x y z : Value) (t : TypeId) : ∀ j v, [x, y, z][j]? = some v → (w.alloc (.cells #[x, y, z] t)).cell? ((⟨w.heap.size, 0, none⟩ : Addr).add j) = some v := by
  intro j v hv
  have hadd : (⟨w.heap.size, 0, none⟩ : Addr).add j = ⟨w.heap.size, j, none⟩ := by unfold Addr.add; split <;> simp_all
  rw [hadd]
  have := alloc_new w (.cells #[x, y, z] t)
  simp only [World.cell?, this]
  match j, hv with
  | 0, hv => simpa using hv
  | 1, hv => simpa using hv
  | 2, hv => simpa using hv
  | n + 3, hv => simp at hv
/-- What the loop keeps. -/
def AI (N : Nat) (w : World) (l : List T) (v : Value) (n : Nat) (wr : World) : Prop :=
  (∃ xs : List Tl, (xs.map (·.1) = l ∧ n = xs.length) ∧ wr.ownsRow (w.heap.size + 1 + 1) 29 3 v xs.length (cellsOf xs) ∧ ∀ x ∈ xs, TyIn (fun k => (k < N ∨ w.heap.size + 1 + 1 ≤ k) ∧ some k ≠ v.ownBlock) wr x.1 (.slice x.2.1 x.1.kids.length x.2.2)) ∧ Below w.heap.size w wr ∧ w.heap.size + 1 + 1 ≤ wr.heap.size
theorem AI.below {N : Nat} {w : World} {l : List T} {v : Value} {n : Nat} {X Y : World} (h : AI N w l v n X) (hb : Below X.heap.size X Y) : AI N w l v n Y := by
  obtain ⟨⟨xs, h1, h2, h3⟩, h4, h5⟩ := h
  refine ⟨⟨xs, h1, row_kept h2 fun k _ _ hk => (hb.block k (Array.getElem?_eq_some_iff.1 hk).1).trans hk, fun x hx => (h3 x hx).keep fun k _ _ _ hk => (hb.block k (Array.getElem?_eq_some_iff.1 hk).1).trans hk⟩, h4.trans (hb.mono h4.size), Nat.le_trans h5 hb.size⟩

set_option maxRecDepth 100000 in
set_option maxHeartbeats 4000000 in
theorem rapp_step (d : List PR) (t : T) (hv : ∀ n, t ≠ .var n) (H : ∀ k ∈ t.kids, RApp d k) : RApp d t := by
  intro N v a c w hs ht hz
  have hz' := tsize_eq t
  have hlen := len_sizes' t.kids
  have hk1 := kind_one hv
  obtain ⟨p1, p2, p3⟩ := app_parts d t hv
  have HS := Lib.hid hs
  have HR := Lib.hid ht.part
  have HH := Lib.hid H
  have HN := Lib.hid hs.2.2
  obtain ⟨av, cv, rfl, _⟩ := hs.1.shape
  obtain ⟨i0, hi, hz0, hz1, hz2⟩ := info_parts Tryd.infoTy
  have HB2 := Lib.hid (fun o1 o2 => below_two w o1 o2)
  have HP := Lib.hid (And.intro p1 (And.intro p2 p3))
  clear hs ht H p1 p2 p3 hv
  simp only [tyV]
  go_enter Tryd.func15, Tryd.ntmps15
  go_wp2
  go_loopw [7, 8] (fun vo vi wr => ∃ (i n e : Nat) (b : Option Addr), i ≤ t.kids.length ∧ vi = .int .i64 i ∧ vo = .slice b n e ∧ Hid (AI N w ((t.kids.take i).map (app d)) (.slice b n e) n wr) ∧ Hid (wr.heap[w.heap.size]? = some (.cells #[.int .i64 t.kind, .string t.name, .slice a t.kids.length c] 29 (0, 0)) ∧ wr.heap[w.heap.size + 1]? = some (.cells #[.int .i64 0, .string ⟨#[]⟩, .slice none 0 0] 29 (0, 0)))) (fun _ vi _ => t.kids.length - (intOf vi).toNat)
  case atStart =>
    exact ⟨0, 0, 0, none, Nat.zero_le _, rfl, rfl, Lib.hid ⟨⟨[], ⟨rfl, rfl⟩, World.ownsRow_nil _ _ _ _, (fun _ h => nomatch h)⟩, HB2.out _ _, by simp⟩, Lib.hid ⟨(Below.heap_alloc _ _ _ (by simp)).trans (alloc_new w _), new_two w _ _⟩⟩
  case round =>
    obtain ⟨i, n, e, b, hi', rfl, rfl, hF, hBox⟩ := hrel
    obtain ⟨b0, b1, b2⟩ := three_cells hBox.out.1
    obtain ⟨z0, z1, z2⟩ := three_cells hBox.out.2
    have lz := (Array.getElem?_eq_some_iff.1 hBox.out.2).1
    have ly := (Array.getElem?_eq_some_iff.1 hBox.out.1).1
    by_cases hlt : i < t.kids.length
    · obtain ⟨⟨xs, ⟨hx1, rfl⟩, hrow, hbs⟩, hBl, hsz⟩ := hF.out
      obtain ⟨g, pa, ca, rfl, hcap, hr⟩ := HR.out i hlt
      obtain ⟨⟨hg, x0, x1, x2⟩, xk⟩ := hr wr (fun k hk hx => hBl.block k hx)
      have hkk := size_mem' (List.getElem_mem hlt)
      have HC := Lib.hid (HH.out t.kids[i] (List.getElem_mem hlt) N _ pa ca wr (HS.out.below hBl) xk (by omega))
      obtain rfl : i = xs.length := by have := congrArg List.length hx1; simp at this; omega
      have HTk := Lib.hid (show (t.kids.take (xs.length + 1)).map (app d) = (t.kids.take xs.length).map (app d) ++ [app d t.kids[xs.length]] by rw [List.take_succ_eq_append_getElem hlt, List.map_append]; rfl)
      have HX1 := Lib.hid hx1
      have HRow := Lib.hid hrow; have HBs := Lib.hid hbs; have HBl := Lib.hid hBl; have HSz := Lib.hid hsz
      have HPc := Lib.hid HP.out.1
      clear hr xk hkk HH HR hx1 hrow hbs hBl hF
      generalize t.kids[xs.length] = u at x0 x1 x2 HC HTk
      simp only [tyV] at HC
      have hlt1 : ((xs.length : Int) < (t.kids.length : Int)) := by omega
      have hxs : xs.length ≤ 1000000000 := by omega
      go_wp2_with (first
        | (go_at_call 15; refine HC.out.mono ?_; rintro e2 w2 ⟨⟨a2, c2, rfl, g1⟩, g2⟩; have G1 := Lib.hid g1; have G2 := Lib.hid g2; have hq1 := (g2.block _ ly).trans hBox.out.1; have hq2 := (g2.block _ lz).trans hBox.out.2; have HBox2 := Lib.hid (And.intro hq1 hq2); have HRow2 := Lib.hid (row_kept HRow.out fun k cs fz hk => (g2.block k (Array.getElem?_eq_some_iff.1 hk).1).trans hk); clear g1 g2 hq1 hq2)
        | (at_builtin; refine wpList_append_lies _ rfl _ _ 27 rfl (w.heap.size + 1 + 1) 29 i0 (.agg #[.int .i64 0, .string ⟨#[]⟩, .slice none 0 0]) 3 48 Tryd.underlying27 hi hz0 hz1 hz2 rfl (by decide) _ _ _ rfl (HRow2.out.alloc _) ⟨w2.heap.size, 0, none⟩ 1 1 [.int .i64 (app d u).kind, .string (app d u).name, .slice a2 (app d u).kids.length c2] rfl rfl (cell_new3 _ _ _ _ _) (by simp [Value.oneCell']) (by decide) (by unfold maxLen; omega) (by omega) (by have := HSz.out; have := G2.out.size; simp; omega) _ rfl ?_; intro g3 cap3 w3 ho3 hg3 hat3 hlt3; have HO3 := Lib.hid ho3; have HG3 := Lib.hid hg3; have HAt3 := Lib.hid hat3; clear ho3 hg3 hat3 hlt3))
      go_roundw
      case rel =>
        have hlo := HRow.out.lt
        have hw2 := G2.out.size
        have hwl := HBl.out.size
        refine ⟨xs.length + 1, xs.length + 1, cap3, some ⟨g3, 0, none⟩, by omega, by go_num, rfl, Lib.hid ⟨⟨xs ++ [(app d u, a2, c2)], ⟨?_, by simp⟩, ?_, ?_⟩, ?_, ?_⟩, Lib.hid ⟨?_, ?_⟩⟩
        · rw [HTk.out, List.map_append, HX1.out]; rfl
        · rw [cellsOf_snoc, List.length_append]; exact HO3.out
        · refine beside_next (fun y hy => (HBs.out y hy).keep fun k _ _ _ hk => (G2.out.block k (Array.getElem?_eq_some_iff.1 hk).1).trans hk) (G1.out.mono fun k hk => ⟨?_, fun e => ?_⟩) HG3.out HAt3.out rfl
          · rcases hk with hk | hk
            · exact .inl hk
            · exact .inr (Nat.le_trans HSz.out hk)
          · have := hlo k e.symm
            have := HN.out
            rcases hk with hk | hk <;> omega
        · exact ((HBl.out.trans (G2.out.mono hwl)).alloc (by omega) _).grown HG3.out (by simp; omega) (fun j hj => by have := (hlo j hj).1; omega)
        · have := HG3.out.size; simp at this; omega
        · exact (HG3.out.block _ (by simp; omega) (fun e => by have := (hlo _ e.symm).1; omega)).trans ((Below.heap_alloc w2 _ _ (by omega)).trans HBox2.out.1)
        · exact (HG3.out.block _ (by simp; omega) (fun e => by have := (hlo _ e.symm).1; omega)).trans ((Below.heap_alloc w2 _ _ (by omega)).trans HBox2.out.2)
      case measure => simp [intOf]; omega
    · obtain rfl : i = t.kids.length := by omega
      rw [List.take_length] at hF
      have fb := Lib.frozen_of_heap hBox.out.1 2
      have u0 := Lib.frozen_of_heap hBox.out.2 0
      have u1 := Lib.frozen_of_heap hBox.out.2 1
      have u2 := Lib.frozen_of_heap hBox.out.2 2
      clear HR HH HS
      go_wp2
      obtain ⟨⟨xs, ⟨hx1, rfl⟩, hrow, hbs⟩, hBl, hsz⟩ := hF.out
      have hz4 := (Below.heap_setCell wr ⟨w.heap.size, 2, none⟩ (.slice b xs.length e) (w.heap.size + 1) (by simp)).trans hBox.out.2
      have hs3 := set3_block hz4 (.int .i64 t.kind) (.string t.name) (.slice b xs.length e)
      have hc := three_cells hs3
      have hlen2 : (app d t).kids.length = xs.length := by rw [HP.out.2.2, ← hx1]; simp
      have hin : TyIn (fun k => k < N ∨ w.heap.size + 1 + 1 ≤ k) wr (app d t) (.slice b xs.length e) := in_of_row (by rw [HP.out.2.2, hx1]) hrow (fun g hg => .inr (hrow.lt g hg).1) (fun x hx => (hbs x hx).mono fun k hk => hk.1)
      refine bodyPost_ret (v := .agg #[.int .i64 t.kind, .string t.name, .slice b xs.length e]) (by simp [results, Tryd.results15, go_sem, hc.1, hc.2.1, hc.2.2]) rfl ⟨⟨b, e, by rw [HP.out.1, HP.out.2.1, hlen2], ?_⟩, below_set3 (hBl.setCell (p := ⟨w.heap.size, 2, none⟩) (Nat.le_refl _) _) (Nat.le_succ _) _ _ _⟩
      rw [hlen2]
      refine (hin.keep fun k _ _ hk hh => ?_).mono fun k hk => hk.imp id (fun h => by omega)
      have hkN : k ≠ w.heap.size ∧ k ≠ w.heap.size + 1 := by have := HN.out; rcases hk with hk | hk <;> omega
      exact (set3_others _ _ _ hkN.2).trans ((Below.heap_setCell wr ⟨w.heap.size, 2, none⟩ _ k hkN.1).trans hh)
theorem rapp_ok (d : List PR) (hl : d.length < 1000000) (t : T) : RApp d t :=
  T.by_kids (P := RApp d) (fun t H => by
    cases t with
    | var n => exact rapp_var d hl n
    | con n l => exact rapp_step d _ (fun m h => by cases h) H
    | fn a b => exact rapp_step d _ (fun m h => by cases h) H
    | all n a => exact rapp_step d _ (fun m h => by cases h) H) t
/-- The document's Apply, whose result is told. -/
theorem rapp_big {d : List PR} {v : Value} {t : T} {a : Option Addr} {c : Nat} {w : World} (hl : d.length < 1000000) (hg : GivenG 73 v d w) (ht : Typ d w) (h : TysAt w (.slice a t.kids.length c) t.kids) (hz : tsize t ≤ 1000000000) :
    Calls Tryd.prog 15 #[v, .agg #[.int .i64 t.kind, .string t.name, .slice a t.kids.length c]] w fun e Y => (∃ za zc, e = .returned (.agg #[.int .i64 (app d t).kind, .string (app d t).name, .slice za (app d t).kids.length zc]) ∧ TysAt Y (.slice za (app d t).kids.length zc) (app d t).kids) ∧ Below w.heap.size w Y := by
  have lt : ∀ (k : Nat) (cs : Array Value) (fz : Nat × Nat), w.heap[k]? = some (.cells cs 29 fz) → k < w.heap.size := fun k _ _ hk => (Array.getElem?_eq_some_iff.1 hk).1
  refine (rapp_ok d hl t w.heap.size v a c w ⟨hg, fun x hx => (ht x hx).inside lt, Nat.le_refl _⟩ (h.inside lt) hz).mono ?_
  rintro e Y ⟨⟨a', c', rfl, hin⟩, hb⟩
  exact ⟨⟨a', c', rfl, hin.tys⟩, hb⟩
theorem rapp_ret {d : List PR} {v : Value} {t : T} {a : Option Addr} {c : Nat} {w : World} (hl : d.length < 1000000) (hg : GivenG 73 v d w) (ht : Typ d w) (h : TysAt w (.slice a t.kids.length c) t.kids) (hz : tsize t ≤ 1000000) :
    Calls Tryd.prog 15 #[v, .agg #[.int .i64 t.kind, .string t.name, .slice a t.kids.length c]] w fun e Y => (∃ za zc, e = .returned (.agg #[.int .i64 (app d t).kind, .string (app d t).name, .slice za (app d t).kids.length zc]) ∧ TysAt Y (.slice za (app d t).kids.length zc) (app d t).kids) ∧ Below w.heap.size w Y :=
  rapp_big hl hg ht h (Nat.le_trans hz (by decide))
end Go.Proofs.YtdcfemojkdoakaaDoor
