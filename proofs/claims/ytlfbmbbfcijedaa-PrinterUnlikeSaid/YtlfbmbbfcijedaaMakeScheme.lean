/- The schemes that are made of numbers. -/
import Derived.Test.YtlfbmbbfcijedaaMakePreds
import Derived.Deep.RegionLaw
import Derived.Deep.CutRange
namespace Go.Proofs.Ytlfbmbbfcijedaa
open Go.RowKit
attribute [local go_sem] Oper.semAt_some
attribute [local go_sem ↓] Go.wp_at_zero Go.wp_at_succ

theorem KeepP.of_mk {B p : Nat} {a : Option Addr} {n c k : Nat} {w w' : World} (h : MkFr B p w w') (hs : SeqAt B p a n c k w) : KeepP w w' := by
  intro i cs fz hi
  refine h.2 i _ hi fun e => ?_
  subst e
  have := hi.symm.trans hs.1.2
  simp at this
theorem KeepP.grown {W W' : World} {base : Nat} {e : TypeId} {size : Nat} {v : Value} {n : Nat} {xs : List Value} (hg : W.grownBy W' v.ownBlock) (h : W.ownsRow base e size v n xs) (he : e ≠ 42) : KeepP W W' := by
  intro k cs fz hk
  refine (hg.block k (Array.getElem?_eq_some_iff.1 hk).1 fun ee => ?_).trans hk
  rcases h.2 with ⟨rfl, _⟩ | ⟨g, cap, cur, rfl, _, hgb, _⟩
  · cases ee
  · obtain rfl : k = g := by simpa [Value.ownBlock] using ee
    rw [hk] at hgb
    cases hgb
    exact he rfl
theorem KeepP.else {r : Nat} {w w' : World} {cs : Array Value} {T : TypeId} {fz : Nat × Nat} (h : Else r w w') (hr : w.heap[r]? = some (.cells cs T fz)) (hT : T ≠ 42) : KeepP w w' := by
  intro k cs' fz' hk
  refine (h.block k fun e => ?_).trans hk
  subst e
  rw [hr] at hk
  cases hk
  exact hT rfl
theorem cell_new1 (w : World) (x : Value) (t : TypeId) : ∀ j v, [x][j]? = some v → (w.alloc (.cells #[x] t)).cell? ((⟨w.heap.size, 0, none⟩ : Addr).add j) = some v := by
  intro j v hv
  have hadd : (⟨w.heap.size, 0, none⟩ : Addr).add j = ⟨w.heap.size, j, none⟩ := by unfold Addr.add; split <;> simp_all
  rw [hadd]
  have := alloc_new w (.cells #[x] t)
  simp only [World.cell?, this]
  match j, hv with
  | 0, hv => simpa using hv
  | n + 1, hv => simp at hv
theorem Try.infoString : (Try.prog.info? 9).map (fun i => (i.zero, i.size, i.bytes)) = some (some (.string ⟨#[]⟩), 1, 16) := by kernel_rfl

def MadeS (B p : Nat) (a : Option Addr) (n c k M D : Nat) (w : World) (e : Ending) (w' : World) : Prop :=
  (∃ l t b m d cv v, e = .returned (schV (.slice b m d) cv t v) ∧ ((l.length ≤ 3 ∧ ∀ q ∈ l, GoodP q ∧ Fits q.2 ∧ (prText q).length ≤ 20) ∧ T.Good t ∧ Fits t ∧ (T.text t).length + 10 ≤ D) ∧ PrsAt w' cv l ∧ TysAt w' v t.kids) ∧ (∃ k', k' ≤ k + M + 30 ∧ SeqAt B p a n c k' w') ∧ MkFr B p w w'

/-- What the loop holds. -/
def SchInv (B p : Nat) (a : Option Addr) (n c k r4 bx bf base : Nat) (l : List Pr) (t : T) (cv v : Value) (w0 : World) (i : Nat) (w : World) : Prop :=
  (∃ vs m xs, w.heap[bx]? = some (.cells #[vs, cv, .int .i64 t.kind, .string t.name, v] 34 (0, 0)) ∧ w.ownsRow base 9 1 vs m xs ∧ m ≤ i) ∧
  w.heap[r4]? = some (.cells #[.slice none 0 0, .slice none 0 0, .int .i64 0, .string ⟨#[]⟩, .slice none 0 0] 34 (0, 0)) ∧
  w.heap[bf]? = some (.cells #[.string ⟨#[97]⟩, .string ⟨#[98]⟩, .string ⟨#[99]⟩, .string ⟨#[100]⟩] 9 (0, 0)) ∧
  (∃ k', k' ≤ k + i ∧ SeqAt B p a n c k' w) ∧ MkFr B p w0 w ∧ PrsAt w cv l ∧ TysAt w v t.kids

theorem SchInv.mk {B p : Nat} {a : Option Addr} {n c k r4 bx bf base k' i : Nat} {l : List Pr} {t : T} {cv v : Value} {w0 w w' : World} (h : SchInv B p a n c k r4 bx bf base l t cv v w0 i w) (hs : SeqAt B p a n c k' w) (hs' : SeqAt B p a n c (k' + 1) w') (hk : k' ≤ k + i) (hf : MkFr B p w w')
    (h1 : bx ≠ p) (h2 : r4 ≠ p) (h3 : bf ≠ p) (hb : p < base) : SchInv B p a n c k r4 bx bf base l t cv v w0 (i + 1) w' := by
  obtain ⟨⟨vs, m, xs, a1, a2, a3⟩, a4, a5, _, a7, a8, a9⟩ := h
  exact ⟨⟨vs, m, xs, hf.2 _ _ a1 h1, own_keep a2 hf.2 hb, by omega⟩, hf.2 _ _ a4 h2, hf.2 _ _ a5 h3, ⟨k' + 1, by omega, hs'⟩, a7.trans hf, a8.keep (KeepT.of_mk hf hs) (KeepP.of_mk hf hs), a9.keep (KeepT.of_mk hf hs)⟩

theorem grow_keeps {W4 W5 : World} {O : Obj} {base : Nat} {e : TypeId} {size m : Nat} {vs : Value} {xs : List Value} (own : W4.ownsRow base e size vs m xs) (hgrow : (W4.alloc O).grownBy W5 vs.ownBlock) : ∀ j o, W4.heap[j]? = some o → j < base → W5.heap[j]? = some o := by
  intro j o hj hlt
  have hjl := (Array.getElem?_eq_some_iff.1 hj).1
  refine (hgrow.block j (by simp; omega) fun e => ?_).trans ((Below.heap_alloc W4 O j hjl).trans hj)
  have := (own.lt j e.symm).1
  omega
theorem SchInv.store {B p : Nat} {a : Option Addr} {n c k r4 bx bf base i m g cap : Nat} {l : List Pr} {t : T} {cv v vs : Value} {xs ys : List Value} {w0 W4 W5 : World} {O : Obj} (h : SchInv B p a n c k r4 bx bf base l t cv v w0 i W4)
    (hx : W4.heap[bx]? = some (.cells #[vs, cv, .int .i64 t.kind, .string t.name, v] 34 (0, 0))) (own : W4.ownsRow base 9 1 vs m xs) (hm : m + 1 ≤ i) (hgrow : (W4.alloc O).grownBy W5 vs.ownBlock)
    (hown : W5.ownsRow base 9 1 (.slice (some ⟨g, 0, none⟩) (m + 1) cap) (m + 1) ys) (h0 : w0.heap.size ≤ r4) (h1 : bx < base) (h2 : r4 < base) (h3 : bf < base) (h4 : p < base) (n1 : bx ≠ p) (n2 : r4 ≠ bx) (n3 : bf ≠ bx) (hB : B ≤ p) (hBx : w0.heap.size ≤ bx) (hb4 : base ≤ W4.heap.size) (hpw : p < w0.heap.size) :
    SchInv B p a n c k r4 bx bf base l t cv v w0 i (W5.setCell ⟨bx, 0, none⟩ (.slice (some ⟨g, 0, none⟩) (m + 1) cap)) := by
  obtain ⟨_, a4, a5, ⟨k', hk', hs⟩, a7, a8, a9⟩ := h
  have gk := grow_keeps own hgrow
  have hx5 := gk _ _ hx h1
  have he := Else.set W5 bx 0 (.slice (some ⟨g, 0, none⟩) (m + 1) cap)
  have hbel : Below B W4 W5 := ((Below.refl B W4).alloc (by omega) O).grown hgrow (by simp; omega) (fun j hj => by have := (own.lt j hj).1; omega)
  have hbel' := hbel.trans (he.below B (by omega))
  have kt : KeepT W4 (W5.setCell ⟨bx, 0, none⟩ (.slice (some ⟨g, 0, none⟩) (m + 1) cap)) := ((keepT_alloc W4 O).trans (KeepT.grown hgrow (own.alloc O) (by decide))).trans (KeepT.else he hx5 (by decide))
  have kp : KeepP W4 (W5.setCell ⟨bx, 0, none⟩ (.slice (some ⟨g, 0, none⟩) (m + 1) cap)) := ((keepP_alloc W4 O).trans (KeepP.grown hgrow (own.alloc O) (by decide))).trans (KeepP.else he hx5 (by decide))
  refine ⟨⟨_, m + 1, ys, block_set (o := 0) hx5 _, ?_, hm⟩, (he.block _ n2).trans (gk _ _ a4 h2), (he.block _ n3).trans (gk _ _ a5 h3), ⟨k', hk', ⟨hs.1.1, (he.block _ (Ne.symm n1)).trans (gk _ _ hs.1.2 h4)⟩, hs.2.keep hbel'⟩, ⟨a7.1.trans hbel', ?_⟩, a8.keep kt kp, a9.keep kt⟩
  · refine ⟨hown.1, ?_⟩
    rcases hown.2 with h | ⟨g', cap', cur, e, hb, hg, r⟩
    · exact .inl h
    · exact .inr ⟨g', cap', cur, e, hb, (he.block _ (by omega)).trans hg, r⟩
  · intro j o hj hjp
    have hjl := (Array.getElem?_eq_some_iff.1 hj).1
    exact (he.block _ (by omega)).trans (gk _ _ (a7.2 j o hj hjp) (by omega))
theorem set5_cells {W : World} {r : Nat} {x0 y0 z0 u0 v0 : Value} {T : TypeId} (h : W.heap[r]? = some (.cells #[x0, y0, z0, u0, v0] T (0, 0))) (x y z u v : Value) :
    (((((W.setCell ⟨r, 0, none⟩ x).setCell ⟨r, 1, none⟩ y).setCell ⟨r, 2, none⟩ z).setCell ⟨r, 3, none⟩ u).setCell ⟨r, 4, none⟩ v).cell? ⟨r, 0, none⟩ = some x ∧ (((((W.setCell ⟨r, 0, none⟩ x).setCell ⟨r, 1, none⟩ y).setCell ⟨r, 2, none⟩ z).setCell ⟨r, 3, none⟩ u).setCell ⟨r, 4, none⟩ v).cell? ⟨r, 1, none⟩ = some y ∧ (((((W.setCell ⟨r, 0, none⟩ x).setCell ⟨r, 1, none⟩ y).setCell ⟨r, 2, none⟩ z).setCell ⟨r, 3, none⟩ u).setCell ⟨r, 4, none⟩ v).cell? ⟨r, 2, none⟩ = some z ∧ (((((W.setCell ⟨r, 0, none⟩ x).setCell ⟨r, 1, none⟩ y).setCell ⟨r, 2, none⟩ z).setCell ⟨r, 3, none⟩ u).setCell ⟨r, 4, none⟩ v).cell? ⟨r, 3, none⟩ = some u ∧ (((((W.setCell ⟨r, 0, none⟩ x).setCell ⟨r, 1, none⟩ y).setCell ⟨r, 2, none⟩ z).setCell ⟨r, 3, none⟩ u).setCell ⟨r, 4, none⟩ v).cell? ⟨r, 4, none⟩ = some v :=
  five_cells (block_set (o := 4) (block_set (o := 3) (block_set (o := 2) (block_set (o := 1) (block_set (o := 0) h x) y) z) u) v)
theorem else_set5 (W : World) (r : Nat) (x y z u v : Value) : Else r W (((((W.setCell ⟨r, 0, none⟩ x).setCell ⟨r, 1, none⟩ y).setCell ⟨r, 2, none⟩ z).setCell ⟨r, 3, none⟩ u).setCell ⟨r, 4, none⟩ v) := ((((Else.set _ _ _ _).trans (Else.set _ _ _ _)).trans (Else.set _ _ _ _)).trans (Else.set _ _ _ _)).trans (Else.set _ _ _ _)
theorem with_world' {P : Program} {c : Code} {Q : Exit → Act → World → Prop} {a : Act} {w : World} (S : World → Prop) (h : S w) (k : ∀ W, S W → Code.wp P c Q a W) : Code.wp P c Q a w := k w h
theorem own_drew {W : World} {base : Nat} {e : TypeId} {size m : Nat} {vs : Value} {xs : List Value} (h : W.ownsRow base e size vs m xs) : W.drew.ownsRow base e size vs m xs := h
theorem free_at {W : World} {bf : Nat} (h : W.heap[bf]? = some (.cells #[.string ⟨#[97]⟩, .string ⟨#[98]⟩, .string ⟨#[99]⟩, .string ⟨#[100]⟩] 9 (0, 0))) (i : Nat) (hi : i < 4) : ∃ s, W.cell? ⟨bf, i, none⟩ = some (.string s) := by
  rw [Lib.cell_of_heap h]
  match i, hi with
  | 0, _ => exact ⟨_, rfl⟩
  | 1, _ => exact ⟨_, rfl⟩
  | 2, _ => exact ⟨_, rfl⟩
  | 3, _ => exact ⟨_, rfl⟩
  | n + 4, hi => omega

set_option maxHeartbeats 8000000 in
theorem make_scheme (B p : Nat) (a : Option Addr) (n c k M D : Nat) (w : World) (h : SeqAt B p a n c k w) (hk : k < 800000000000000000) (hM : M ≤ 1000000) (hn : n < 1152921504606846976)
    (HT : ∀ w, SeqAt B p a n c k w → Calls Try.prog 6 #[.pointer (some ⟨p, 0, none⟩), .int .i64 3] w (MadeT B p a n c k M D w)) :
    Calls Try.prog 7 #[.pointer (some ⟨p, 0, none⟩)] w (MadeS B p a n c k M D w) := by
  have hp := h.lt
  obtain ⟨i0, hi, hz0, hz1, hz2⟩ := info_parts Try.infoString
  have HB := Lib.hid h.1.1
  have HT' := Lib.hid (fun o => HT (w.alloc o) (h.below ((Below.refl _ w).alloc (Nat.le_refl _) o)))
  have HNe := Lib.hid (show w.heap.size ≠ p by omega)
  clear h HT
  go_enter Try.func7, Try.ntmps7
  go_wp2_with (go_at_call 6; refine (HT'.out _).mono ?_)
  rintro e W1 ⟨⟨t, u, rfl, hg, hu⟩, ⟨k1, hk1, hs1⟩, hf1⟩
  obtain ⟨a1, n1, rfl⟩ := hu.shape
  have hz := hf1.2 _ _ (alloc_new w _) HNe.out
  have HZ := Lib.hid hz; have HU := Lib.hid hu; have HS := Lib.hid hs1; have HF := Lib.hid hf1; have HG := Lib.hid hg
  have hzl := (Array.getElem?_eq_some_iff.1 hz).1
  have HPs := Lib.hid (fun o => make_preds B p a n c k1 (W1.alloc o) (hs1.below ((Below.refl _ W1).alloc (Nat.le_refl _) o)) (by omega) hn)
  clear hz hu hs1 hf1 hg
  simp only [tyV]
  go_wp2_with (go_at_call 16; refine (HPs.out _).mono ?_)
  rintro e W2 ⟨⟨l, cv, rfl, hgl, hpl⟩, ⟨k2, hk2, hs2⟩, hf2⟩
  obtain ⟨a2, n2, rfl⟩ := hpl.shape
  have HNe1 := Lib.hid (show W1.heap.size ≠ p by have := HS.out.lt; omega)
  have hx := hf2.2 _ _ (alloc_new W1 _) HNe1.out
  obtain ⟨x0, x1, x2, x3, x4⟩ := five_cells hx
  have fx1 := Lib.frozen_of_heap hx 1
  have hz2' := hf2.2 _ _ ((Below.heap_alloc W1 _ _ hzl).trans HZ.out) HNe.out
  have HX := Lib.hid hx; have HZ2 := Lib.hid hz2'; have HPl := Lib.hid hpl; have HS2 := Lib.hid hs2; have HF2 := Lib.hid hf2; have HGl := Lib.hid hgl
  have HUt := Lib.hid (HU.out.keep ((keepT_alloc W1 _).trans (KeepT.of_mk hf2 (HS.out.below ((Below.refl _ W1).alloc (Nat.le_refl _) _)))))
  clear hx hz2' hpl hs2 hf2 hgl
  go_wp2_with fail
  have hB := HB.out
  have hxl : W1.heap.size < W2.heap.size := (Array.getElem?_eq_some_iff.1 HX.out).1
  have hzl2 : w.heap.size < W2.heap.size := (Array.getElem?_eq_some_iff.1 HZ2.out).1
  have hpl := HS2.out.lt
  have hwx : w.heap.size < W1.heap.size := hzl
  refine with_world' (SchInv B p a n c k2 w.heap.size W1.heap.size W2.heap.size (W2.heap.size + 1) l t (.slice a2 l.length n2) (.slice a1 t.kids.length n1) w 0) ?_ ?_
  · have he := Else.set W2 W1.heap.size 1 (.slice a2 l.length n2)
    have hsz : (W2.setCell ⟨W1.heap.size, 1, none⟩ (.slice a2 l.length n2)).heap.size = W2.heap.size := by simp [World.setCell]
    have kt : KeepT W2 (W2.setCell ⟨W1.heap.size, 1, none⟩ (.slice a2 l.length n2)) := KeepT.else he HX.out (by decide)
    have kp : KeepP W2 (W2.setCell ⟨W1.heap.size, 1, none⟩ (.slice a2 l.length n2)) := KeepP.else he HX.out (by decide)
    have ha := fun (o : Obj) (j : Nat) (hj : j < W2.heap.size) => Below.heap_alloc (W2.setCell ⟨W1.heap.size, 1, none⟩ (.slice a2 l.length n2)) o j (by rw [hsz]; exact hj)
    have hb := (he.below B (by omega)).alloc (by rw [hsz]; omega) (.cells #[.string ⟨#[97]⟩, .string ⟨#[98]⟩, .string ⟨#[99]⟩, .string ⟨#[100]⟩] 9)
    refine ⟨⟨.slice none 0 0, 0, [], (ha _ _ hxl).trans (block_set (o := 1) HX.out _), World.ownsRow_nil _ _ _ _, Nat.le_refl _⟩, (ha _ _ hzl2).trans ((he.block _ (by omega)).trans HZ2.out), ?_, ⟨k2, Nat.le_refl _, ⟨hB, (ha _ _ hpl).trans ((he.block _ (Ne.symm HNe1.out)).trans HS2.out.1.2)⟩, HS2.out.2.keep hb⟩, ⟨?_, ?_⟩, HPl.out.keep (kt.trans (keepT_alloc _ _)) (kp.trans (keepP_alloc _ _)), HUt.out.keep (kt.trans (keepT_alloc _ _))⟩
    · have := alloc_new (W2.setCell ⟨W1.heap.size, 1, none⟩ (.slice a2 l.length n2)) (.cells #[.string ⟨#[97]⟩, .string ⟨#[98]⟩, .string ⟨#[99]⟩, .string ⟨#[100]⟩] 9)
      rw [hsz] at this
      exact this
    · exact ((((Below.refl B w).alloc (by omega) _).trans HF.out.1).trans (((Below.refl B W1).alloc (by omega) _).trans HF2.out.1)).trans hb
    · intro j o hj hjp
      have hjl := (Array.getElem?_eq_some_iff.1 hj).1
      have h1 := HF.out.2 j o ((Below.heap_alloc w _ j hjl).trans hj) hjp
      have h2 := HF2.out.2 j o ((Below.heap_alloc W1 _ j (by omega)).trans h1) hjp
      exact (ha _ _ (by omega)).trans ((he.block _ (by omega)).trans h2)
  rintro W3 hI
  have HI := Lib.hid hI
  clear hI x0 x1 x2 x3 x4 fx1
  go_loopw [6] (fun vi wr => ∃ i : Nat, i ≤ 4 ∧ vi = .int .i64 i ∧ Hid (SchInv B p a n c k2 w.heap.size W1.heap.size W2.heap.size (W2.heap.size + 1) l t (.slice a2 l.length n2) (.slice a1 t.kids.length n1) w i wr)) (fun vi _ => 4 - (intOf vi).toNat)
  case atStart => exact ⟨0, by omega, rfl, HI⟩
  case round =>
    obtain ⟨i, hi4, rfl, hI⟩ := hrel
    by_cases hlt : i < 4
    · obtain ⟨k', hk', hs⟩ := hI.out.2.2.2.1
      have HSi := Lib.hid hs
      have HKi := Lib.hid hk'
      clear hs hk'
      go_wp2_with (go_at_call 12; refine (next_any B p a n c k' 3 _ HSi.out (by decide) (by decide) (by have := HKi.out; omega) hn).mono ?_)
      rintro e W4 ⟨⟨r, hr, rfl⟩, h1, h2⟩
      have HI4 := Lib.hid (hI.out.mk HSi.out h1 HKi.out h2 HNe1.out HNe.out (by omega) (by omega))
      obtain ⟨⟨vs, m, xs, b1, b2, b3⟩, _⟩ := hI.out
      have b1' := h2.2 _ _ b1 HNe1.out
      have b2' := own_keep b2 h2.2 (show p < W2.heap.size + 1 by omega)
      have hb4 : W2.heap.size + 1 ≤ W4.heap.size := by
        have := (Array.getElem?_eq_some_iff.1 HI4.out.2.2.1).1
        omega
      clear h1 h2 b1 b2
      by_cases hr0 : 0 < r
      · have hrI : (0 : Int) < (r : Int) := by omega
        obtain ⟨va, vc, rfl⟩ := row_val b2'
        obtain ⟨fs, hfs⟩ := free_at HI4.out.2.2.1 i hlt
        obtain ⟨x0, x1, x2, x3, x4⟩ := five_cells b1'
        have hbl : W2.heap.size < W4.heap.size := by omega
        have hbx : W1.heap.size < W4.heap.size := by omega
        have hlI : (i : Int) < 4 := by omega
        have HR := Lib.hid b2'
        have HX4 := Lib.hid b1'
        have HGK := Lib.hid (fun W5 (O : Obj) (hg : (W4.alloc O).grownBy W5 (Value.slice va m vc).ownBlock) => grow_keeps HR.out hg)
        clear b1' b2'
        go_wp2_with fail
        go_region_law (refine step_append_lies _ (by rfl) _ _ _ (by rfl) (W2.heap.size + 1) 9 i0 (.string ⟨#[]⟩) 1 16 Try.underlying31 hi hz0 hz1 hz2 rfl (by decide) _ _ _ (by rfl) (own_drew (HR.out.alloc _)) ⟨W4.heap.size, 0, none⟩ 1 1 [.string fs] (by rfl) rfl (cell_new1 _ _ _) (by simp [Value.oneCell']) (by decide) (by unfold maxLen; omega) (by omega) (by simp; omega) _ rfl ?_; intro g cap W5 hown5 hgrow _ _; have HO5 := Lib.hid hown5; have HG5 := Lib.hid (show (W4.alloc _).grownBy W5 (Value.slice va m vc).ownBlock from ⟨hgrow.os, hgrow.tape, hgrow.output, hgrow.size, hgrow.block⟩); have hx5 := HGK.out W5 _ HG5.out _ _ HX4.out (by omega); obtain ⟨y0, y1, y2, y3, y4⟩ := five_cells hx5; have fy := Lib.frozen_of_heap hx5 0; clear hown5 hgrow hx5)
        all_goals go_wp2
        all_goals
          go_roundw
          case rel => exact ⟨i + 1, by omega, by go_num, Lib.hid (SchInv.store HI4.out HX4.out HR.out (by omega) HG5.out HO5.out (Nat.le_refl _) (by omega) (by omega) (by omega) (by omega) HNe1.out (by omega) (by omega) hB (by omega) hb4 hp)⟩
          case measure => simp [intOf]; omega
      · obtain rfl : r = 0 := by omega
        go_wp2
        go_roundw
        case rel => exact ⟨i + 1, by omega, by go_num, HI4⟩
        case measure => simp [intOf]; omega
    · obtain rfl : i = 4 := by omega
      obtain ⟨⟨vs, m, xs, b1, b2, b3⟩, b4, _⟩ := hI.out
      obtain ⟨va, vc, rfl⟩ := row_val b2
      obtain ⟨x0, x1, x2, x3, x4⟩ := five_cells b1
      obtain ⟨d0, d1, d2, d3, d4⟩ := five_cells b4
      have g0 := Lib.frozen_of_heap b4 0
      have g1 := Lib.frozen_of_heap b4 1
      have g2 := Lib.frozen_of_heap b4 2
      have g3 := Lib.frozen_of_heap b4 3
      have g4 := Lib.frozen_of_heap b4 4
      have HZ4 := Lib.hid b4
      clear b1 b2 b4
      go_wp2
      have he := else_set5 wr w.heap.size (.slice va m vc) (.slice a2 l.length n2) (.int .i64 t.kind) (.string t.name) (.slice a1 t.kids.length n1)
      obtain ⟨_, _, _, ⟨k', hk', hs⟩, hfr, hpr, hty⟩ := hI.out
      have kt := KeepT.else he HZ4.out (by decide)
      have kp := KeepP.else he HZ4.out (by decide)
      refine bodyPost_ret (v := schV (.slice va m vc) (.slice a2 l.length n2) t (.slice a1 t.kids.length n1)) (by have hc := set5_cells HZ4.out (.slice va m vc) (.slice a2 l.length n2) (.int .i64 t.kind) (.string t.name) (.slice a1 t.kids.length n1); simp [results, Try.results7, go_sem, schV, hc.1, hc.2.1, hc.2.2.1, hc.2.2.2.1, hc.2.2.2.2]) rfl ?_
      refine ⟨⟨l, t, va, m, vc, _, _, rfl, ⟨HGl.out, HG.out⟩, hpr.keep kt kp, hty.keep kt⟩, ⟨k', by omega, ⟨hB, (he.block p (by omega)).trans hs.1.2⟩, hs.2.keep (he.below B (by omega))⟩, hfr.1.trans (he.below B (by omega)), fun j o hj hjp => ?_⟩
      have hjl := (Array.getElem?_eq_some_iff.1 hj).1
      exact (he.block j (by omega)).trans (hfr.2 j o hj hjp)
end Go.Proofs.Ytlfbmbbfcijedaa
