/- The types that are made of numbers: good ones, of a bounded text. -/
import Derived.Test.YteoelcefjjmjiaaMake
namespace Go.Proofs.Yteoelcefjjmjiaa
open Go.RowKit
attribute [local go_sem] Oper.semAt_some
attribute [local go_sem ↓] Go.wp_at_zero Go.wp_at_succ

theorem TyAt.elsewhere {w w' : World} {r : Nat} {b c : Value} {fz : Nat × Nat} (h0 : w.heap[r]? = some (.cells #[.int .i64 0, b, c] 29 fz)) (hk : ∀ k, k ≠ r → w'.heap[k]? = w.heap[k]?) {t : T} {k n v : Value} (h : TyAt w t k n v) : TyAt w' t k n v := by
  induction h with
  | leaf t a c h => exact .leaf t a c h
  | row t g cap cs fz x y z h1 h2 h3 h4 ih =>
    by_cases he : t.kids = []
    · rw [he]; exact .leaf t _ _ he
    · have h0t : 0 < t.kids.length := List.length_pos_iff.2 he
      have hg : g ≠ r := by
        rintro rfl
        rw [h0] at h1
        cases h1
        have e1 := (h3 0 h0t).1
        have e2 := (h4 0 h0t).shape.1
        have e3 : x 0 = .int .i64 0 := by simpa using e1.symm
        rw [e2] at e3
        have := (T.kind_pos t.kids[0]).1
        injection e3 with _ e4
        omega
      exact .row t g cap cs fz x y z ((hk g hg).trans h1) h2 h3 ih
theorem TysAt.elsewhere {w w' : World} {r : Nat} {b c : Value} {fz : Nat × Nat} (h0 : w.heap[r]? = some (.cells #[.int .i64 0, b, c] 29 fz)) (hk : ∀ k, k ≠ r → w'.heap[k]? = w.heap[k]?) {v : Value} {l : List T} (h : TysAt w v l) : TysAt w' v l := by
  rcases h with h | ⟨g, cap, cs, fz, x, y, z, rfl, h1, h2, h3, h4⟩
  · exact .inl h
  · by_cases he : l = []
    · subst he; exact .inl ⟨rfl, _, _, rfl⟩
    · have h0t : 0 < l.length := List.length_pos_iff.2 he
      have hg : g ≠ r := by
        rintro rfl
        rw [h0] at h1
        cases h1
        have e1 := (h3 0 h0t).1
        have e2 := (h4 0 h0t).shape.1
        have e3 : x 0 = .int .i64 0 := by simpa using e1.symm
        rw [e2] at e3
        have := (T.kind_pos l[0]).1
        injection e3 with _ e4
        omega
      exact .inr ⟨g, cap, cs, fz, x, y, z, rfl, (hk g hg).trans h1, h2, h3, fun i hi => (h4 i hi).elsewhere h0 hk⟩

theorem set3_cells {W : World} {r : Nat} {x0 y0 z0 : Value} {T : TypeId} (h : W.heap[r]? = some (.cells #[x0, y0, z0] T (0, 0))) (x y z : Value) :
    (((W.setCell ⟨r, 0, none⟩ x).setCell ⟨r, 1, none⟩ y).setCell ⟨r, 2, none⟩ z).cell? ⟨r, 0, none⟩ = some x ∧ (((W.setCell ⟨r, 0, none⟩ x).setCell ⟨r, 1, none⟩ y).setCell ⟨r, 2, none⟩ z).cell? ⟨r, 1, none⟩ = some y ∧
    (((W.setCell ⟨r, 0, none⟩ x).setCell ⟨r, 1, none⟩ y).setCell ⟨r, 2, none⟩ z).cell? ⟨r, 2, none⟩ = some z :=
  three_cells (block_set (o := 2) (block_set (o := 1) (block_set (o := 0) h x) y) z)
/-- What a maker of a type hands back. -/
def MadeN (B p : Nat) (a : Option Addr) (n c k m D : Nat) (w : World) (e : Ending) (w' : World) : Prop :=
  (∃ t u, e = .returned (tyV t u) ∧ (T.Good t ∧ Fits t ∧ (T.text t).length + 10 ≤ D) ∧ TyIn (fun k => w.heap.size ≤ k) w' t u) ∧ (∃ k', k' + 1 ≤ k + m ∧ SeqAt B p a n c k' w') ∧ MkFr B p w w'
/-- The end: the type is stored in the result's own block. -/
theorem made_fn {B p : Nat} {a : Option Addr} {n c k k' m D : Nat} {w W : World} {O : Obj} {t : T} {u x y z : Value} (hs : SeqAt B p a n c k' W) (hk : k' + 1 ≤ k + m) (hfr : MkFr B p (w.alloc O) W) (hp : p < w.heap.size)
    (_ : W.heap[w.heap.size]? = some (.cells #[.int .i64 0, .string ⟨#[]⟩, .slice none 0 0] 29 (0, 0))) (ht : TyIn (fun k => w.heap.size < k) W t u) (hg : T.Good t ∧ Fits t ∧ (T.text t).length + 10 ≤ D) :
    MadeN B p a n c k m D w (.returned (tyV t u)) (((W.setCell ⟨w.heap.size, 0, none⟩ x).setCell ⟨w.heap.size, 1, none⟩ y).setCell ⟨w.heap.size, 2, none⟩ z) := by
  have hk3 : ∀ i, i ≠ w.heap.size → (((W.setCell ⟨w.heap.size, 0, none⟩ x).setCell ⟨w.heap.size, 1, none⟩ y).setCell ⟨w.heap.size, 2, none⟩ z).heap[i]? = W.heap[i]? := fun i hi =>
    (Below.heap_setCell _ ⟨w.heap.size, 2, none⟩ _ i hi).trans ((Below.heap_setCell _ ⟨w.heap.size, 1, none⟩ _ i hi).trans (Below.heap_setCell _ ⟨w.heap.size, 0, none⟩ _ i hi))
  have hB := hs.1.1
  have hbel : Below B W (((W.setCell ⟨w.heap.size, 0, none⟩ x).setCell ⟨w.heap.size, 1, none⟩ y).setCell ⟨w.heap.size, 2, none⟩ z) :=
    (((Below.refl B W).setCell (p := ⟨w.heap.size, 0, none⟩) (by show B ≤ w.heap.size; omega) _).setCell (p := ⟨w.heap.size, 1, none⟩) (by show B ≤ w.heap.size; omega) _).setCell (p := ⟨w.heap.size, 2, none⟩) (by show B ≤ w.heap.size; omega) _
  refine ⟨⟨t, u, rfl, hg, (ht.keep fun k _ _ hk hh => (hk3 k (Nat.ne_of_gt hk)).trans hh).mono fun k hk => Nat.le_of_lt hk⟩, ⟨k', hk, ⟨hB, (hk3 p (by omega)).trans hs.1.2⟩, hs.2.keep hbel⟩, ?_, ?_⟩
  · exact (((Below.refl B w).alloc (by omega) O).trans hfr.1).trans hbel
  · intro i o hi hip
    have hlt := (Array.getElem?_eq_some_iff.1 hi).1
    exact (hk3 i (by omega)).trans (hfr.2 i o ((Below.heap_alloc w O i hlt).trans hi) hip)

theorem good_var {n : ByteArray} {D : Nat} (h : n.data.toList ∈ T.vnames) (hs : n.size ≤ 4) (hD : 14 ≤ D) : T.Good (.var n) ∧ Fits (.var n) ∧ (T.text (.var n)).length + 10 ≤ D := by
  refine ⟨by rw [T.Good]; exact h, .mk _ (by simp [T.kids]) (by simp [T.kids]), ?_⟩
  rw [T.text, ← Lib.size_eq]; omega
theorem good_con0 {n : ByteArray} {D : Nat} (h : n.data.toList ∈ T.cnames) (hs : n.size ≤ 4) (hD : 14 ≤ D) : T.Good (.con n []) ∧ Fits (.con n []) ∧ (T.text (.con n [])).length + 10 ≤ D := by
  refine ⟨by rw [T.Good, T.Goods]; exact ⟨h, trivial⟩, .mk _ (by simp [T.kids]) (by simp [T.kids]), ?_⟩
  rw [T.text, T.texts, List.append_nil, ← Lib.size_eq]; omega
theorem br_len (b : Bool) (s : List UInt8) : (T.br b s).length ≤ s.length + 2 := by cases b <;> simp [T.br]
theorem arg_len (t : T) : (T.arg t).length ≤ (T.text t).length + 2 := br_len _ _
theorem good_con1 {n : ByteArray} {x : T} {D E : Nat} (h : n.data.toList ∈ T.cnames) (hs : n.size ≤ 4) (hx : T.Good x ∧ Fits x ∧ (T.text x).length + 10 ≤ D) (hE : 2 * D ≤ E) (_ : 14 ≤ D) : T.Good (.con n [x]) ∧ Fits (.con n [x]) ∧ (T.text (.con n [x])).length + 10 ≤ E := by
  refine ⟨by rw [T.Good, T.Goods, T.Goods]; exact ⟨h, hx.1, trivial⟩, .mk _ (by simp [T.kids]) (fun k hk => by simp [T.kids] at hk; subst hk; exact hx.2.1), ?_⟩
  have := arg_len x; have := hx.2.2
  rw [T.text, T.texts_cons, T.texts]
  simp only [List.length_append, List.length_cons, List.length_nil, ← Lib.size_eq]; omega
theorem good_con2 {n : ByteArray} {x y : T} {D E : Nat} (h : n.data.toList ∈ T.cnames) (hs : n.size ≤ 4) (hx : T.Good x ∧ Fits x ∧ (T.text x).length + 10 ≤ D) (hy : T.Good y ∧ Fits y ∧ (T.text y).length + 10 ≤ D) (hE : 2 * D ≤ E) : T.Good (.con n [x, y]) ∧ Fits (.con n [x, y]) ∧ (T.text (.con n [x, y])).length + 10 ≤ E := by
  refine ⟨by rw [T.Good, T.Goods, T.Goods, T.Goods]; exact ⟨h, hx.1, hy.1, trivial⟩, .mk _ (by simp [T.kids]) (fun k hk => by simp [T.kids] at hk; rcases hk with rfl | rfl; exact hx.2.1; exact hy.2.1), ?_⟩
  have := arg_len x; have := arg_len y; have := hx.2.2; have := hy.2.2
  rw [T.text, T.texts_cons, T.texts_cons, T.texts]
  simp only [List.length_append, List.length_cons, List.length_nil, ← Lib.size_eq]; omega
theorem good_fn {x y : T} {D E : Nat} (hx : T.Good x ∧ Fits x ∧ (T.text x).length + 10 ≤ D) (hy : T.Good y ∧ Fits y ∧ (T.text y).length + 10 ≤ D) (hE : 2 * D ≤ E) : T.Good (.fn x y) ∧ Fits (.fn x y) ∧ (T.text (.fn x y)).length + 10 ≤ E := by
  refine ⟨by rw [T.Good]; exact ⟨hx.1, hy.1⟩, .mk _ (by simp [T.kids]) (fun k hk => by simp [T.kids] at hk; rcases hk with rfl | rfl; exact hx.2.1; exact hy.2.1), ?_⟩
  have := br_len x.arrow x.text; have := hx.2.2; have := hy.2.2
  rw [T.text]
  simp only [List.length_append, List.length_cons, List.length_nil]; omega

theorem in_one {ok : Nat → Prop} {W : World} {t : T} {v : Value} (n : ByteArray) (hok : ok W.heap.size) (h : TyIn ok W t v) : TyIn ok (W.alloc (.cells #[.int .i64 t.kind, .string t.name, v] 29)) (.con n [t]) (.slice (some ⟨W.heap.size, 0, none⟩) 1 1) := by
  refine .row (.con n [t]) W.heap.size 1 #[.int .i64 t.kind, .string t.name, v] (0, 0) (fun _ => v) hok (alloc_new W _) (Nat.le_refl _) (fun i hi => ?_) (fun i hi => ?_)
  · obtain rfl : i = 0 := by simp [T.kids] at hi; exact hi
    exact ⟨rfl, rfl, rfl⟩
  · obtain rfl : i = 0 := by simp [T.kids] at hi; exact hi
    exact h.keep fun k _ _ _ hh => (Below.heap_alloc W _ k (Array.getElem?_eq_some_iff.1 hh).1).trans hh
theorem in_pair {ok : Nat → Prop} {W : World} {t t' c : T} {v v' : Value} {g : Nat} (hg : g = W.heap.size) (hc : c.kids = [t, t']) (hok : ok W.heap.size) (h : TyIn ok W t v) (h' : TyIn ok W t' v') : TyIn ok (W.alloc (.cells #[.int .i64 t.kind, .string t.name, v, .int .i64 t'.kind, .string t'.name, v'] 29)) c (.slice (some ⟨g, 0, none⟩) 2 2) := by
  subst hg
  have hl : c.kids.length = 2 := by rw [hc]; rfl
  have hkeep : ∀ (o : Obj) {t : T} {v : Value}, TyIn ok W t v → TyIn ok (W.alloc o) t v := fun o t v h => h.keep fun k _ _ _ hh => (Below.heap_alloc W _ k (Array.getElem?_eq_some_iff.1 hh).1).trans hh
  rw [show (Value.slice (some ⟨W.heap.size, 0, none⟩) 2 2) = .slice (some ⟨W.heap.size, 0, none⟩) c.kids.length 2 by rw [hl]]
  refine .row c W.heap.size 2 #[.int .i64 t.kind, .string t.name, v, .int .i64 t'.kind, .string t'.name, v'] (0, 0) (fun i => if i = 0 then v else v') hok (alloc_new W _) (by rw [hl]; exact Nat.le_refl _) (fun i hi => ?_) (fun i hi => ?_)
  · have hi2 : i < 2 := by omega
    have e : c.kids[i] = [t, t'][i] := by simp [hc]
    rw [e]
    match i, hi2 with
    | 0, _ => exact ⟨rfl, rfl, rfl⟩
    | 1, _ => exact ⟨rfl, rfl, rfl⟩
    | n + 2, h => omega
  · have hi2 : i < 2 := by omega
    have e : c.kids[i] = [t, t'][i] := by simp [hc]
    rw [e]
    match i, hi2 with
    | 0, _ => exact hkeep _ h
    | 1, _ => exact hkeep _ h'
    | n + 2, h => omega
set_option maxHeartbeats 1000000 in
theorem con_in {ok : Nat → Prop} (n : ByteArray) (a : Option Addr) (l : List T) (k c : Nat) (w : World) (h : TyIn ok w (.con n l) (.slice a k c)) :
    Calls Try.prog 29 #[.string n, .slice a k c] w fun e w' => (∃ u, e = .returned (tyV (.con n l) u) ∧ TyIn ok w' (.con n l) u) ∧ Below w.heap.size w w' := by
  have H := Lib.hid h; clear h
  go_enter Try.func29, Try.ntmps29
  go_wp2
  refine bodyPost_ret (v := tyV (.con n l) (.slice a k c)) (by simp [results, Try.results29, go_sem, tyV, T.kind, T.name]) rfl ⟨⟨_, rfl, H.out.keep fun k _ _ _ hh => (Below.heap_alloc w _ k (Array.getElem?_eq_some_iff.1 hh).1).trans hh⟩, (Below.refl _ w).alloc (Nat.le_refl _) _⟩
set_option maxHeartbeats 1000000 in
theorem fun2_in {ok : Nat → Prop} (x y : T) (a b : Option Addr) (c d : Nat) (w : World) (hok : ∀ k, w.heap.size ≤ k → ok k) (hx : TyIn ok w x (.slice a x.kids.length c)) (hy : TyIn ok w y (.slice b y.kids.length d)) :
    Calls Try.prog 30 #[tyV x (.slice a x.kids.length c), tyV y (.slice b y.kids.length d)] w fun e w' => (∃ u, e = .returned (tyV (.fn x y) u) ∧ TyIn ok w' (.fn x y) u) ∧ Below w.heap.size w w' := by
  have HX := Lib.hid hx; have HY := Lib.hid hy; have HK := Lib.hid hok
  clear hx hy hok
  simp only [tyV]
  go_enter Try.func30, Try.ntmps30
  go_wp2
  have k3 : ∀ (o1 o2 o3 : Obj) {t : T} {v : Value}, TyIn ok w t v → TyIn ok (((w.alloc o1).alloc o2).alloc o3) t v := fun o1 o2 o3 t v h => h.keep (fun k cs fz _ hh => (((keepT_alloc w o1).trans (keepT_alloc _ o2)).trans (keepT_alloc _ o3)) k cs fz hh)
  refine bodyPost_ret (v := .agg #[.int .i64 3, .string ⟨#[]⟩, .slice (some ⟨w.heap.size + 1 + 1 + 1, 0, none⟩) 2 2]) (by simp [results, Try.results30, go_sem]) rfl ⟨⟨_, rfl, ?_⟩, ?_⟩
  · exact in_pair (by simp) rfl (HK.out _ (by simp; omega)) (k3 _ _ _ HX.out) (k3 _ _ _ HY.out)
  · exact ((((Below.refl _ w).alloc (Nat.le_refl _) _).alloc (by simp) _).alloc (by simp; omega) _).alloc (by simp; omega) _

set_option maxHeartbeats 4000000 in
theorem make_n0 (B p : Nat) (a : Option Addr) (n c k : Nat) (w : World) (h : SeqAt B p a n c k w) (hk : k < 1152921504606846976) (hn : n < 1152921504606846976) :
    Calls Try.prog 8 #[.pointer (some ⟨p, 0, none⟩), .int .i64 0] w (MadeN B p a n c k 2 14 w) := by
  have hp := h.lt
  have HN := Lib.hid (fun o => next_any B p a n c k 9 (w.alloc o) (h.below ((Below.refl _ w).alloc (Nat.le_refl _) o)) (by decide) (by decide) hk hn)
  have HNe := Lib.hid (show w.heap.size ≠ p by omega)
  clear h
  go_enter Try.func8, Try.ntmps8
  go_wp2_with (go_at_call 27; refine (HN.out _).mono ?_)
  rintro e W1 ⟨⟨r, hr, rfl⟩, h1, h2⟩
  have hz := h2.2 _ _ (alloc_new w _) HNe.out
  obtain ⟨c0, c1, c2⟩ := three_cells hz
  have f0 := Lib.frozen_of_heap hz 0
  have f1 := Lib.frozen_of_heap hz 1
  have f2 := Lib.frozen_of_heap hz 2
  have HZ := Lib.hid hz; have H1 := Lib.hid h1; have H2 := Lib.hid h2
  have hzl := (Array.getElem?_eq_some_iff.1 hz).1
  clear hz h1 h2
  obtain ⟨z, hz⟩ : ∃ z : Int, (r : Int) = z := ⟨_, rfl⟩
  rw [hz]
  have h9 : z = 0 ∨ z = 1 ∨ z = 2 ∨ z = 3 ∨ z = 4 ∨ z = 5 ∨ z = 6 ∨ z = 7 ∨ z = 8 := by omega
  clear hz hr
  rcases h9 with rfl | rfl | rfl | rfl | rfl | rfl | rfl | rfl | rfl
  · go_wp2_with (go_at_call 28; refine (var_any _ _).mono ?_)
    rintro e W2 ⟨⟨u, rfl, hu⟩, hb⟩
    have HBT := Lib.hid (((Below.refl _ W1).alloc (Nat.le_refl _) _).trans (hb.mono (by simp)))
    clear hb
    obtain ⟨a2, n2, rfl⟩ := hu.shape
    have hz2 : W2.heap[w.heap.size]? = some (.cells #[.int .i64 0, .string ⟨#[]⟩, .slice none 0 0] 29 (0, 0)) := (HBT.out.block _ hzl).trans HZ.out
    obtain ⟨d0, d1, d2⟩ := three_cells hz2
    have g0 := Lib.frozen_of_heap hz2 0
    have g1 := Lib.frozen_of_heap hz2 1
    have g2 := Lib.frozen_of_heap hz2 2
    have HZ2 := Lib.hid hz2; have HU := Lib.hid hu
    clear hz2 hu c0 c1 c2 f0 f1 f2
    simp only [tyV, T.kind, T.name, List.length_nil]
    go_wp2
    exact bodyPost_ret (v := .agg #[.int .i64 1, .string ⟨#[97]⟩, .slice a2 0 n2]) (by have hc := set3_cells HZ2.out (.int .i64 1) (.string ⟨#[97]⟩) (.slice a2 0 n2); simp [results, Try.results8, go_sem, hc.1, hc.2.1, hc.2.2]) rfl (made_fn (t := .var ⟨#[97]⟩) (H1.out.below HBT.out) (by omega) (H2.out.trans (MkFr.of_below HBT.out (Nat.le_trans H1.out.1.1 (Nat.le_of_lt H1.out.lt)))) hp HZ2.out (.leaf _ _ _ rfl) (good_var (by decide) (by decide) (by decide)))
  · go_wp2_with (go_at_call 28; refine (var_any _ _).mono ?_)
    rintro e W2 ⟨⟨u, rfl, hu⟩, hb⟩
    have HBT := Lib.hid (((Below.refl _ W1).alloc (Nat.le_refl _) _).trans (hb.mono (by simp)))
    clear hb
    obtain ⟨a2, n2, rfl⟩ := hu.shape
    have hz2 : W2.heap[w.heap.size]? = some (.cells #[.int .i64 0, .string ⟨#[]⟩, .slice none 0 0] 29 (0, 0)) := (HBT.out.block _ hzl).trans HZ.out
    obtain ⟨d0, d1, d2⟩ := three_cells hz2
    have g0 := Lib.frozen_of_heap hz2 0
    have g1 := Lib.frozen_of_heap hz2 1
    have g2 := Lib.frozen_of_heap hz2 2
    have HZ2 := Lib.hid hz2; have HU := Lib.hid hu
    clear hz2 hu c0 c1 c2 f0 f1 f2
    simp only [tyV, T.kind, T.name, List.length_nil]
    go_wp2
    exact bodyPost_ret (v := .agg #[.int .i64 1, .string ⟨#[98]⟩, .slice a2 0 n2]) (by have hc := set3_cells HZ2.out (.int .i64 1) (.string ⟨#[98]⟩) (.slice a2 0 n2); simp [results, Try.results8, go_sem, hc.1, hc.2.1, hc.2.2]) rfl (made_fn (t := .var ⟨#[98]⟩) (H1.out.below HBT.out) (by omega) (H2.out.trans (MkFr.of_below HBT.out (Nat.le_trans H1.out.1.1 (Nat.le_of_lt H1.out.lt)))) hp HZ2.out (.leaf _ _ _ rfl) (good_var (by decide) (by decide) (by decide)))
  · go_wp2_with (go_at_call 28; refine (var_any _ _).mono ?_)
    rintro e W2 ⟨⟨u, rfl, hu⟩, hb⟩
    have HBT := Lib.hid (((Below.refl _ W1).alloc (Nat.le_refl _) _).trans (hb.mono (by simp)))
    clear hb
    obtain ⟨a2, n2, rfl⟩ := hu.shape
    have hz2 : W2.heap[w.heap.size]? = some (.cells #[.int .i64 0, .string ⟨#[]⟩, .slice none 0 0] 29 (0, 0)) := (HBT.out.block _ hzl).trans HZ.out
    obtain ⟨d0, d1, d2⟩ := three_cells hz2
    have g0 := Lib.frozen_of_heap hz2 0
    have g1 := Lib.frozen_of_heap hz2 1
    have g2 := Lib.frozen_of_heap hz2 2
    have HZ2 := Lib.hid hz2; have HU := Lib.hid hu
    clear hz2 hu c0 c1 c2 f0 f1 f2
    simp only [tyV, T.kind, T.name, List.length_nil]
    go_wp2
    exact bodyPost_ret (v := .agg #[.int .i64 1, .string ⟨#[99]⟩, .slice a2 0 n2]) (by have hc := set3_cells HZ2.out (.int .i64 1) (.string ⟨#[99]⟩) (.slice a2 0 n2); simp [results, Try.results8, go_sem, hc.1, hc.2.1, hc.2.2]) rfl (made_fn (t := .var ⟨#[99]⟩) (H1.out.below HBT.out) (by omega) (H2.out.trans (MkFr.of_below HBT.out (Nat.le_trans H1.out.1.1 (Nat.le_of_lt H1.out.lt)))) hp HZ2.out (.leaf _ _ _ rfl) (good_var (by decide) (by decide) (by decide)))
  · go_wp2_with (go_at_call 29; refine (con_any _ none [] 0 0 _ (TysAt.nil _ _ _)).mono ?_)
    rintro e W2 ⟨⟨u, rfl, hu⟩, hb⟩
    have HBT := Lib.hid hb
    clear hb
    obtain ⟨a2, n2, rfl⟩ := hu.shape
    have hz2 : W2.heap[w.heap.size]? = some (.cells #[.int .i64 0, .string ⟨#[]⟩, .slice none 0 0] 29 (0, 0)) := (HBT.out.block _ hzl).trans HZ.out
    obtain ⟨d0, d1, d2⟩ := three_cells hz2
    have g0 := Lib.frozen_of_heap hz2 0
    have g1 := Lib.frozen_of_heap hz2 1
    have g2 := Lib.frozen_of_heap hz2 2
    have HZ2 := Lib.hid hz2; have HU := Lib.hid hu
    clear hz2 hu c0 c1 c2 f0 f1 f2
    simp only [tyV, T.kind, T.name, List.length_nil]
    go_wp2
    exact bodyPost_ret (v := .agg #[.int .i64 2, .string ⟨#[73, 110, 116]⟩, .slice a2 0 n2]) (by have hc := set3_cells HZ2.out (.int .i64 2) (.string ⟨#[73, 110, 116]⟩) (.slice a2 0 n2); simp [results, Try.results8, go_sem, hc.1, hc.2.1, hc.2.2]) rfl (made_fn (t := .con ⟨#[73, 110, 116]⟩ []) (H1.out.below HBT.out) (by omega) (H2.out.trans (MkFr.of_below HBT.out (Nat.le_trans H1.out.1.1 (Nat.le_of_lt H1.out.lt)))) hp HZ2.out (.leaf _ _ _ rfl) (good_con0 (by decide) (by decide) (by decide)))
  · go_wp2_with (go_at_call 29; refine (con_any _ none [] 0 0 _ (TysAt.nil _ _ _)).mono ?_)
    rintro e W2 ⟨⟨u, rfl, hu⟩, hb⟩
    have HBT := Lib.hid hb
    clear hb
    obtain ⟨a2, n2, rfl⟩ := hu.shape
    have hz2 : W2.heap[w.heap.size]? = some (.cells #[.int .i64 0, .string ⟨#[]⟩, .slice none 0 0] 29 (0, 0)) := (HBT.out.block _ hzl).trans HZ.out
    obtain ⟨d0, d1, d2⟩ := three_cells hz2
    have g0 := Lib.frozen_of_heap hz2 0
    have g1 := Lib.frozen_of_heap hz2 1
    have g2 := Lib.frozen_of_heap hz2 2
    have HZ2 := Lib.hid hz2; have HU := Lib.hid hu
    clear hz2 hu c0 c1 c2 f0 f1 f2
    simp only [tyV, T.kind, T.name, List.length_nil]
    go_wp2
    exact bodyPost_ret (v := .agg #[.int .i64 2, .string ⟨#[66, 111, 111, 108]⟩, .slice a2 0 n2]) (by have hc := set3_cells HZ2.out (.int .i64 2) (.string ⟨#[66, 111, 111, 108]⟩) (.slice a2 0 n2); simp [results, Try.results8, go_sem, hc.1, hc.2.1, hc.2.2]) rfl (made_fn (t := .con ⟨#[66, 111, 111, 108]⟩ []) (H1.out.below HBT.out) (by omega) (H2.out.trans (MkFr.of_below HBT.out (Nat.le_trans H1.out.1.1 (Nat.le_of_lt H1.out.lt)))) hp HZ2.out (.leaf _ _ _ rfl) (good_con0 (by decide) (by decide) (by decide)))
  · go_wp2_with (go_at_call 28; refine (var_any _ _).mono ?_)
    rintro e W2 ⟨⟨u, rfl, hu⟩, hb⟩
    have HBT := Lib.hid (((Below.refl _ W1).alloc (Nat.le_refl _) _).trans (hb.mono (by simp)))
    clear hb
    obtain ⟨a2, n2, rfl⟩ := hu.shape
    have hz2 : W2.heap[w.heap.size]? = some (.cells #[.int .i64 0, .string ⟨#[]⟩, .slice none 0 0] 29 (0, 0)) := (HBT.out.block _ hzl).trans HZ.out
    obtain ⟨d0, d1, d2⟩ := three_cells hz2
    have g0 := Lib.frozen_of_heap hz2 0
    have g1 := Lib.frozen_of_heap hz2 1
    have g2 := Lib.frozen_of_heap hz2 2
    have HZ2 := Lib.hid hz2; have HU := Lib.hid hu
    clear hz2 hu c0 c1 c2 f0 f1 f2
    simp only [tyV, T.kind, T.name, List.length_nil]
    go_wp2
    exact bodyPost_ret (v := .agg #[.int .i64 1, .string ⟨#[97]⟩, .slice a2 0 n2]) (by have hc := set3_cells HZ2.out (.int .i64 1) (.string ⟨#[97]⟩) (.slice a2 0 n2); simp [results, Try.results8, go_sem, hc.1, hc.2.1, hc.2.2]) rfl (made_fn (t := .var ⟨#[97]⟩) (H1.out.below HBT.out) (by omega) (H2.out.trans (MkFr.of_below HBT.out (Nat.le_trans H1.out.1.1 (Nat.le_of_lt H1.out.lt)))) hp HZ2.out (.leaf _ _ _ rfl) (good_var (by decide) (by decide) (by decide)))
  · go_wp2_with (go_at_call 28; refine (var_any _ _).mono ?_)
    rintro e W2 ⟨⟨u, rfl, hu⟩, hb⟩
    have HBT := Lib.hid (((Below.refl _ W1).alloc (Nat.le_refl _) _).trans (hb.mono (by simp)))
    clear hb
    obtain ⟨a2, n2, rfl⟩ := hu.shape
    have hz2 : W2.heap[w.heap.size]? = some (.cells #[.int .i64 0, .string ⟨#[]⟩, .slice none 0 0] 29 (0, 0)) := (HBT.out.block _ hzl).trans HZ.out
    obtain ⟨d0, d1, d2⟩ := three_cells hz2
    have g0 := Lib.frozen_of_heap hz2 0
    have g1 := Lib.frozen_of_heap hz2 1
    have g2 := Lib.frozen_of_heap hz2 2
    have HZ2 := Lib.hid hz2; have HU := Lib.hid hu
    clear hz2 hu c0 c1 c2 f0 f1 f2
    simp only [tyV, T.kind, T.name, List.length_nil]
    go_wp2
    exact bodyPost_ret (v := .agg #[.int .i64 1, .string ⟨#[98]⟩, .slice a2 0 n2]) (by have hc := set3_cells HZ2.out (.int .i64 1) (.string ⟨#[98]⟩) (.slice a2 0 n2); simp [results, Try.results8, go_sem, hc.1, hc.2.1, hc.2.2]) rfl (made_fn (t := .var ⟨#[98]⟩) (H1.out.below HBT.out) (by omega) (H2.out.trans (MkFr.of_below HBT.out (Nat.le_trans H1.out.1.1 (Nat.le_of_lt H1.out.lt)))) hp HZ2.out (.leaf _ _ _ rfl) (good_var (by decide) (by decide) (by decide)))
  · go_wp2_with (go_at_call 28; refine (var_any _ _).mono ?_)
    rintro e W2 ⟨⟨u, rfl, hu⟩, hb⟩
    have HBT := Lib.hid (((Below.refl _ W1).alloc (Nat.le_refl _) _).trans (hb.mono (by simp)))
    clear hb
    obtain ⟨a2, n2, rfl⟩ := hu.shape
    have hz2 : W2.heap[w.heap.size]? = some (.cells #[.int .i64 0, .string ⟨#[]⟩, .slice none 0 0] 29 (0, 0)) := (HBT.out.block _ hzl).trans HZ.out
    obtain ⟨d0, d1, d2⟩ := three_cells hz2
    have g0 := Lib.frozen_of_heap hz2 0
    have g1 := Lib.frozen_of_heap hz2 1
    have g2 := Lib.frozen_of_heap hz2 2
    have HZ2 := Lib.hid hz2; have HU := Lib.hid hu
    clear hz2 hu c0 c1 c2 f0 f1 f2
    simp only [tyV, T.kind, T.name, List.length_nil]
    go_wp2
    exact bodyPost_ret (v := .agg #[.int .i64 1, .string ⟨#[99]⟩, .slice a2 0 n2]) (by have hc := set3_cells HZ2.out (.int .i64 1) (.string ⟨#[99]⟩) (.slice a2 0 n2); simp [results, Try.results8, go_sem, hc.1, hc.2.1, hc.2.2]) rfl (made_fn (t := .var ⟨#[99]⟩) (H1.out.below HBT.out) (by omega) (H2.out.trans (MkFr.of_below HBT.out (Nat.le_trans H1.out.1.1 (Nat.le_of_lt H1.out.lt)))) hp HZ2.out (.leaf _ _ _ rfl) (good_var (by decide) (by decide) (by decide)))
  · go_wp2_with (go_at_call 29; refine (con_any _ none [] 0 0 _ (TysAt.nil _ _ _)).mono ?_)
    rintro e W2 ⟨⟨u, rfl, hu⟩, hb⟩
    have HBT := Lib.hid hb
    clear hb
    obtain ⟨a2, n2, rfl⟩ := hu.shape
    have hz2 : W2.heap[w.heap.size]? = some (.cells #[.int .i64 0, .string ⟨#[]⟩, .slice none 0 0] 29 (0, 0)) := (HBT.out.block _ hzl).trans HZ.out
    obtain ⟨d0, d1, d2⟩ := three_cells hz2
    have g0 := Lib.frozen_of_heap hz2 0
    have g1 := Lib.frozen_of_heap hz2 1
    have g2 := Lib.frozen_of_heap hz2 2
    have HZ2 := Lib.hid hz2; have HU := Lib.hid hu
    clear hz2 hu c0 c1 c2 f0 f1 f2
    simp only [tyV, T.kind, T.name, List.length_nil]
    go_wp2
    exact bodyPost_ret (v := .agg #[.int .i64 2, .string ⟨#[73, 110, 116]⟩, .slice a2 0 n2]) (by have hc := set3_cells HZ2.out (.int .i64 2) (.string ⟨#[73, 110, 116]⟩) (.slice a2 0 n2); simp [results, Try.results8, go_sem, hc.1, hc.2.1, hc.2.2]) rfl (made_fn (t := .con ⟨#[73, 110, 116]⟩ []) (H1.out.below HBT.out) (by omega) (H2.out.trans (MkFr.of_below HBT.out (Nat.le_trans H1.out.1.1 (Nat.le_of_lt H1.out.lt)))) hp HZ2.out (.leaf _ _ _ rfl) (good_con0 (by decide) (by decide) (by decide)))

end Go.Proofs.Yteoelcefjjmjiaa
