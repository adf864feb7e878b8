/- Trees that the parser makes: a variable, an application, an operation. -/
import Derived.Test.YtdooeghicdaakaaGreatDoorParTree
import Derived.Deep.RegionHeld3
namespace Go.Proofs.YtdooeghicdaakaaGreatDoor
open Go.RowKit
attribute [local go_sem] Oper.semAt_some field_tok0 field_tok1 field_tok2

theorem new4 (w : World) (o1 o2 o3 o4 : Obj) : ((((w.alloc o1).alloc o2).alloc o3).alloc o4).heap[w.heap.size + 1 + 1 + 1]? = some o4 := by
  have := World.alloc_heap_new (((w.alloc o1).alloc o2).alloc o3) o4
  simpa only [World.size_alloc] using this
theorem new3 (w : World) (o1 o2 o3 o4 : Obj) : ((((w.alloc o1).alloc o2).alloc o3).alloc o4).heap[w.heap.size + 1 + 1]? = some o3 := by
  have := World.alloc_heap_new ((w.alloc o1).alloc o2) o3
  rw [Below.heap_alloc _ _ _ (by simp)]
  simpa only [World.size_alloc] using this
theorem new2 (w : World) (o1 o2 o3 o4 : Obj) : ((((w.alloc o1).alloc o2).alloc o3).alloc o4).heap[w.heap.size + 1]? = some o2 := by
  have := World.alloc_heap_new (w.alloc o1) o2
  rw [Below.heap_alloc _ _ _ (by simp), Below.heap_alloc _ _ _ (by simp)]
  simpa only [World.size_alloc] using this
theorem new1 (w : World) (o1 o2 o3 o4 : Obj) : ((((w.alloc o1).alloc o2).alloc o3).alloc o4).heap[w.heap.size]? = some o1 := by
  have := World.alloc_heap_new w o1
  rw [Below.heap_alloc _ _ _ (by simp; omega), Below.heap_alloc _ _ _ (by simp; omega), Below.heap_alloc _ _ _ (by simp)]
  exact this
theorem keep_set7 {w : World} {B k : Nat} {o : Obj} (v0 v1 v2 v3 v4 v5 v6 : Value) (hk : k ≠ B) (h : w.heap[k]? = some o) : (((((((w.setCell ⟨B, 0, none⟩ v0).setCell ⟨B, 1, none⟩ v1).setCell ⟨B, 2, none⟩ v2).setCell ⟨B, 3, none⟩ v3).setCell ⟨B, 4, none⟩ v4).setCell ⟨B, 5, none⟩ v5).setCell ⟨B, 6, none⟩ v6).heap[k]? = some o := by
  rw [Below.heap_setCell _ _ _ _ hk, Below.heap_setCell _ _ _ _ hk, Below.heap_setCell _ _ _ _ hk, Below.heap_setCell _ _ _ _ hk, Below.heap_setCell _ _ _ _ hk, Below.heap_setCell _ _ _ _ hk, Below.heap_setCell _ _ _ _ hk]
  exact h
theorem below_set7 {w w' : World} {B n : Nat} {v0 v1 v2 v3 v4 v5 v6 : Value} (h : Below n w w') (hB : n ≤ B) : Below n w (((((((w'.setCell ⟨B, 0, none⟩ v0).setCell ⟨B, 1, none⟩ v1).setCell ⟨B, 2, none⟩ v2).setCell ⟨B, 3, none⟩ v3).setCell ⟨B, 4, none⟩ v4).setCell ⟨B, 5, none⟩ v5).setCell ⟨B, 6, none⟩ v6) :=
  ((((((h.setCell (p := ⟨B, 0, none⟩) hB _).setCell (p := ⟨B, 1, none⟩) hB _).setCell (p := ⟨B, 2, none⟩) hB _).setCell (p := ⟨B, 3, none⟩) hB _).setCell (p := ⟨B, 4, none⟩) hB _).setCell (p := ⟨B, 5, none⟩) hB _).setCell (p := ⟨B, 6, none⟩) hB _
/-- A tree is handed back, its rows from a block on. -/
def TreeRet (ok : Nat → Prop) (e : E) (en : Ending) (w : World) : Prop := ∃ p1 c1 p2 c2 p3 c3, en = .returned (exV e (.slice p1 e.kids.length c1) (.slice p2 e.alts.length c2) (.slice p3 e.binds.length c3)) ∧ ExIn ok w e (.slice p1 e.kids.length c1) (.slice p2 e.alts.length c2) (.slice p3 e.binds.length c3)
theorem TreeRet.of {ok : Nat → Prop} {e : E} {w : World} {l a b : Value} (h : ExIn ok w e l a b) : TreeRet ok e (.returned (exV e l a b)) w := by
  obtain ⟨⟨p1, c1, rfl⟩, ⟨p2, c2, rfl⟩, ⟨p3, c3, rfl⟩⟩ := h.shape
  exact ⟨_, _, _, _, _, _, rfl, h⟩

set_option maxRecDepth 100000 in
set_option maxHeartbeats 2000000 in
theorem variable_any (ok : Nat → Prop) (x : Wd) (w : World) :
    Calls Tryz.prog 57 #[wdV x] w fun e w' => TreeRet ok (varE x) e w' ∧ Below w.heap.size w w' := by
  rw [wdV_eq]
  go_enter Tryz.func57, Tryz.ntmps57
  go_wp2
  exact bodyPost_ret (v := exV (varE x) (.slice none 0 0) (.slice none 0 0) (.slice none 0 0)) (by simp [results, Tryz.results57, go_sem, exV, varE, E.kind, E.pos, E.name, E.num]) rfl ⟨TreeRet.of (ExIn.leaf _ _ _ _ _ _), ((Below.refl _ w).alloc (Nat.le_refl _) _).alloc (by simp) _⟩

set_option maxRecDepth 100000 in
set_option maxHeartbeats 4000000 in
theorem apply_any (ok : Nat → Prop) (f x : E) (l1 a1 b1 l2 a2 b2 : Value) (w : World) (hn : ∀ k, w.heap.size ≤ k → ok k) (hf : ExIn ok w f l1 a1 b1) (hx : ExIn ok w x l2 a2 b2) :
    Calls Tryz.prog 56 #[exV f l1 a1 b1, exV x l2 a2 b2] w fun e w' => TreeRet ok (applyE f x) e w' ∧ Below w.heap.size w w' := by
  have HF := Lib.hid hf; have HX := Lib.hid hx; clear hf hx
  have HB := Lib.hid (fun o1 o2 o3 o4 : Obj => ((((Below.refl w.heap.size w).alloc (Nat.le_refl _) o1).alloc (by simp) o2).alloc (by simp; omega) o3).alloc (by simp; omega) o4)
  unfold exV
  go_enter Tryz.func56, Tryz.ntmps56
  go_wp2
  have hB := HB.out (.cells #[.int .i64 f.kind, .int .i64 f.pos, .string f.name, .int .i64 f.num, l1, a1, b1] 28) (.cells #[.int .i64 x.kind, .int .i64 x.pos, .string x.name, .int .i64 x.num, l2, a2, b2] 28)
    (.cells #[.int .i64 5, .int .i64 f.pos, .string ⟨#[]⟩, .int .i64 0, .slice (some ⟨w.heap.size + 1 + 1 + 1, 0, none⟩) 2 2, .slice none 0 0, .slice none 0 0] 28)
    (.cells #[.int .i64 f.kind, .int .i64 f.pos, .string f.name, .int .i64 f.num, l1, a1, b1, .int .i64 x.kind, .int .i64 x.pos, .string x.name, .int .i64 x.num, l2, a2, b2] 28)
  exact bodyPost_ret (v := exV (applyE f x) (.slice (some ⟨w.heap.size + 1 + 1 + 1, 0, none⟩) 2 2) (.slice none 0 0) (.slice none 0 0)) (by simp [results, Tryz.results56, go_sem, exV, applyE, E.kind, E.pos, E.name, E.num]) rfl
    ⟨TreeRet.of (ExIn.two 5 f.pos ⟨#[]⟩ 0 f x (HF.out.keep (keep_of_below hB)) (HX.out.keep (keep_of_below hB)) (new4 w _ _ _ _) (hn _ (by omega))), hB⟩

set_option maxRecDepth 100000 in
set_option maxHeartbeats 8000000 in
theorem operation_any (ok : Nat → Prop) (x : Wd) (f y : E) (l1 a1 b1 l2 a2 b2 : Value) (w : World) (hn : ∀ k, w.heap.size ≤ k → ok k) (hf : ExIn ok w f l1 a1 b1) (hy : ExIn ok w y l2 a2 b2) :
    Calls Tryz.prog 40 #[wdV x, exV f l1 a1 b1, exV y l2 a2 b2] w fun e w' => TreeRet ok (opE x f y) e w' ∧ Below w.heap.size w w' := by
  have HB := Lib.hid (fun o1 o2 o3 o4 : Obj => ((((Below.refl w.heap.size w).alloc (Nat.le_refl _) o1).alloc (by simp) o2).alloc (by simp; omega) o3).alloc (by simp; omega) o4)
  unfold opE
  obtain ⟨v1, hv1⟩ : ∃ v1, varE x = v1 := ⟨_, rfl⟩
  obtain ⟨v2, hv2⟩ : ∃ v2, applyE v1 f = v2 := ⟨_, rfl⟩
  obtain ⟨v3, hv3⟩ : ∃ v3, applyE v2 y = v3 := ⟨_, rfl⟩
  obtain ⟨ok1, hok1⟩ : ∃ ok1 : Nat → Prop, (fun k => ok k ∧ k ≠ w.heap.size + 1 + 1 + 1) = ok1 := ⟨_, rfl⟩
  have hf1 : ExIn ok1 w f l1 a1 b1 := by rw [← hok1]; exact hf.lt.mono (fun k hk => ⟨hk.1, by omega⟩)
  have hy1 : ExIn ok1 w y l2 a2 b2 := by rw [← hok1]; exact hy.lt.mono (fun k hk => ⟨hk.1, by omega⟩)
  have HN : Hid (∀ X : World, w.heap.size + 1 + 1 + 1 < X.heap.size → ∀ k, X.heap.size ≤ k → ok1 k) := Lib.hid (fun X hX k hk => by rw [← hok1]; exact ⟨hn k (by omega), by omega⟩)
  have HOK := Lib.hid hok1
  clear hok1
  have C1 := Lib.hid (fun X : World => variable_any ok1 x X)
  have C2 := Lib.hid (fun (X : World) (p1 p2 p3 : Value) (hX : ∀ k, X.heap.size ≤ k → ok1 k) (h1 : ExIn ok1 X v1 p1 p2 p3) (hb : Below w.heap.size w X) => apply_any ok1 v1 f p1 p2 p3 l1 a1 b1 X hX h1 (hf1.keep (keep_of_below hb)))
  have C3 := Lib.hid (fun (X : World) (p1 p2 p3 : Value) (hX : ∀ k, X.heap.size ≤ k → ok1 k) (h1 : ExIn ok1 X v2 p1 p2 p3) (hb : Below w.heap.size w X) => apply_any ok1 v2 y p1 p2 p3 l2 a2 b2 X hX h1 (hy1.keep (keep_of_below hb)))
  rw [hv1] at C1; rw [hv2] at C2; rw [hv3] at C3
  rw [hv1, hv2, hv3]
  clear hv1 hv2 hv3 hf hy hf1 hy1 hn
  simp only [wdV_eq] at C1 ⊢
  unfold exV at C2 C3 ⊢
  go_enter Tryz.func40, Tryz.ntmps40
  go_wp2
  have hB := HB.out (.cells #[.int .i64 x.kind, .int .i64 x.pos, .string x.text, .int .i64 x.num] 52) (.cells #[.int .i64 f.kind, .int .i64 f.pos, .string f.name, .int .i64 f.num, l1, a1, b1] 28)
    (.cells #[.int .i64 y.kind, .int .i64 y.pos, .string y.name, .int .i64 y.num, l2, a2, b2] 28) (.cells #[.int .i64 0, .int .i64 0, .string ⟨#[]⟩, .int .i64 0, .slice none 0 0, .slice none 0 0, .slice none 0 0] 28)
  have hk6 := new4 w (.cells #[.int .i64 x.kind, .int .i64 x.pos, .string x.text, .int .i64 x.num] 52) (.cells #[.int .i64 f.kind, .int .i64 f.pos, .string f.name, .int .i64 f.num, l1, a1, b1] 28)
    (.cells #[.int .i64 y.kind, .int .i64 y.pos, .string y.name, .int .i64 y.num, l2, a2, b2] 28) (.cells #[.int .i64 0, .int .i64 0, .string ⟨#[]⟩, .int .i64 0, .slice none 0 0, .slice none 0 0, .slice none 0 0] 28)
  have hk5 := new3 w (.cells #[.int .i64 x.kind, .int .i64 x.pos, .string x.text, .int .i64 x.num] 52) (.cells #[.int .i64 f.kind, .int .i64 f.pos, .string f.name, .int .i64 f.num, l1, a1, b1] 28)
    (.cells #[.int .i64 y.kind, .int .i64 y.pos, .string y.name, .int .i64 y.num, l2, a2, b2] 28) (.cells #[.int .i64 0, .int .i64 0, .string ⟨#[]⟩, .int .i64 0, .slice none 0 0, .slice none 0 0, .slice none 0 0] 28)
  have hk4 := new2 w (.cells #[.int .i64 x.kind, .int .i64 x.pos, .string x.text, .int .i64 x.num] 52) (.cells #[.int .i64 f.kind, .int .i64 f.pos, .string f.name, .int .i64 f.num, l1, a1, b1] 28)
    (.cells #[.int .i64 y.kind, .int .i64 y.pos, .string y.name, .int .i64 y.num, l2, a2, b2] 28) (.cells #[.int .i64 0, .int .i64 0, .string ⟨#[]⟩, .int .i64 0, .slice none 0 0, .slice none 0 0, .slice none 0 0] 28)
  have hk3 := new1 w (.cells #[.int .i64 x.kind, .int .i64 x.pos, .string x.text, .int .i64 x.num] 52) (.cells #[.int .i64 f.kind, .int .i64 f.pos, .string f.name, .int .i64 f.num, l1, a1, b1] 28)
    (.cells #[.int .i64 y.kind, .int .i64 y.pos, .string y.name, .int .i64 y.num, l2, a2, b2] 28) (.cells #[.int .i64 0, .int .i64 0, .string ⟨#[]⟩, .int .i64 0, .slice none 0 0, .slice none 0 0, .slice none 0 0] 28)
  obtain ⟨V, hV⟩ : ∃ V, (((w.alloc (.cells #[.int .i64 x.kind, .int .i64 x.pos, .string x.text, .int .i64 x.num] 52)).alloc (.cells #[.int .i64 f.kind, .int .i64 f.pos, .string f.name, .int .i64 f.num, l1, a1, b1] 28)).alloc
    (.cells #[.int .i64 y.kind, .int .i64 y.pos, .string y.name, .int .i64 y.num, l2, a2, b2] 28)).alloc (.cells #[.int .i64 0, .int .i64 0, .string ⟨#[]⟩, .int .i64 0, .slice none 0 0, .slice none 0 0, .slice none 0 0] 28) = V := ⟨_, rfl⟩
  rw [hV] at hB hk3 hk4 hk5 hk6 ⊢
  clear hV HB
  obtain ⟨B3, e3⟩ : ∃ B3, w.heap.size = B3 := ⟨_, rfl⟩
  obtain ⟨B4, e4⟩ : ∃ B4, w.heap.size + 1 = B4 := ⟨_, rfl⟩
  obtain ⟨B5, e5⟩ : ∃ B5, w.heap.size + 1 + 1 = B5 := ⟨_, rfl⟩
  obtain ⟨B6, e6⟩ : ∃ B6, w.heap.size + 1 + 1 + 1 = B6 := ⟨_, rfl⟩
  have hBB := Lib.hid (show w.heap.size ≤ B6 by omega)
  have n3 : B3 ≠ B6 := by omega
  have n4 : B4 ≠ B6 := by omega
  have n5 : B5 ≠ B6 := by omega
  rw [e6, e5, e4, e3]
  rw [e6] at HN HOK
  rw [e6] at hk6; rw [e5] at hk5; rw [e4] at hk4; rw [e3] at hk3
  clear e3 e4 e5 e6
  have HV := Lib.hid hB
  have K3 := Lib.hid hk3; have K4 := Lib.hid hk4; have K5 := Lib.hid hk5; have K6 := Lib.hid hk6
  obtain ⟨t0, t1, t2, t3⟩ := cells4 hk3
  obtain ⟨u0, u1, u2, u3, u4, u5, u6⟩ := cells7 hk4
  obtain ⟨x0, x1, x2, x3, x4, x5, x6⟩ := cells7 hk5
  obtain ⟨y0, y1, y2, y3, y4, y5, y6⟩ := cells7 hk6
  have fy := fun i => Lib.frozen_of_heap hk6 i
  clear hk3 hk4 hk5 hk6 hB
  go_region_held3 (fun V' => (V'.cell? ⟨B3, 0, none⟩ = some (.int .i64 x.kind) ∧ V'.cell? ⟨B3, 1, none⟩ = some (.int .i64 x.pos) ∧ V'.cell? ⟨B3, 2, none⟩ = some (.string x.text) ∧ V'.cell? ⟨B3, 3, none⟩ = some (.int .i64 x.num)) ∧ (V'.cell? ⟨B4, 0, none⟩ = some (.int .i64 f.kind) ∧ V'.cell? ⟨B4, 1, none⟩ = some (.int .i64 f.pos) ∧ V'.cell? ⟨B4, 2, none⟩ = some (.string f.name) ∧ V'.cell? ⟨B4, 3, none⟩ = some (.int .i64 f.num) ∧ V'.cell? ⟨B4, 4, none⟩ = some l1 ∧ V'.cell? ⟨B4, 5, none⟩ = some a1 ∧ V'.cell? ⟨B4, 6, none⟩ = some b1) ∧ V'.cell? ⟨B5, 0, none⟩ = some (.int .i64 y.kind) ∧ V'.cell? ⟨B5, 1, none⟩ = some (.int .i64 y.pos) ∧ V'.cell? ⟨B5, 2, none⟩ = some (.string y.name) ∧ V'.cell? ⟨B5, 3, none⟩ = some (.int .i64 y.num) ∧ V'.cell? ⟨B5, 4, none⟩ = some l2 ∧ V'.cell? ⟨B5, 5, none⟩ = some a2 ∧ V'.cell? ⟨B5, 6, none⟩ = some b2) (first | (with_reducible exact ⟨⟨t0, t1, t2, t3⟩, ⟨u0, u1, u2, u3, u4, u5, u6⟩, x0, x1, x2, x3, x4, x5, x6⟩) | (simp only [t0, t1, t2, t3, u0, u1, u2, u3, u4, u5, u6, x0, x1, x2, x3, x4, x5, x6, and_self]; done) | (simp [t0, t1, t2, t3, u0, u1, u2, u3, u4, u5, u6, x0, x1, x2, x3, x4, x5, x6, go_sem]; done))
    (first
      | (go_at_call 57; refine (C1.out _).mono ?_; rintro e V1 ⟨⟨p1, p1', p2, p2', p3, p3', rfl, hx1⟩, hb⟩; have hv' : Below w.heap.size w V1 := (by first | exact HV.out.drew.trans (Below.mono hb HV.out.size) | exact HV.out.trans (Below.mono hb HV.out.size)); replace HV := Lib.hid hv'; clear hv'; have X1 := Lib.hid hx1; replace K3 := Lib.hid ((hb.block B3 (Array.getElem?_eq_some_iff.1 K3.out).1).trans K3.out); replace K4 := Lib.hid ((hb.block B4 (Array.getElem?_eq_some_iff.1 K4.out).1).trans K4.out); replace K5 := Lib.hid ((hb.block B5 (Array.getElem?_eq_some_iff.1 K5.out).1).trans K5.out); replace K6 := Lib.hid ((hb.block B6 (Array.getElem?_eq_some_iff.1 K6.out).1).trans K6.out); clear hx1 hb t0 t1 t2 t3 u0 u1 u2 u3 u4 u5 u6 x0 x1 x2 x3 x4 x5 x6 y0 y1 y2 y3 y4 y5 y6 fy; obtain ⟨t0, t1, t2, t3⟩ := cells4 K3.out; obtain ⟨u0, u1, u2, u3, u4, u5, u6⟩ := cells7 K4.out; obtain ⟨x0, x1, x2, x3, x4, x5, x6⟩ := cells7 K5.out; obtain ⟨y0, y1, y2, y3, y4, y5, y6⟩ := cells7 K6.out; have fy := fun i => Lib.frozen_of_heap K6.out i; unfold exV)
      | (go_at_call 56; (with_reducible refine (C2.out _ _ _ _ (HN.out _ (Array.getElem?_eq_some_iff.1 K6.out).1) X1.out HV.out).mono ?_); rintro e V2 ⟨⟨q1, q1', q2, q2', q3, q3', rfl, hx1⟩, hb⟩; have hv' : Below w.heap.size w V2 := (by first | exact HV.out.trans (Below.mono hb HV.out.size) | exact HV.out.drew.trans (Below.mono hb HV.out.size)); replace HV := Lib.hid hv'; clear hv'; have X2 := Lib.hid hx1; replace K3 := Lib.hid ((hb.block B3 (Array.getElem?_eq_some_iff.1 K3.out).1).trans K3.out); replace K4 := Lib.hid ((hb.block B4 (Array.getElem?_eq_some_iff.1 K4.out).1).trans K4.out); replace K5 := Lib.hid ((hb.block B5 (Array.getElem?_eq_some_iff.1 K5.out).1).trans K5.out); replace K6 := Lib.hid ((hb.block B6 (Array.getElem?_eq_some_iff.1 K6.out).1).trans K6.out); clear hx1 hb t0 t1 t2 t3 u0 u1 u2 u3 u4 u5 u6 x0 x1 x2 x3 x4 x5 x6 y0 y1 y2 y3 y4 y5 y6 fy; obtain ⟨t0, t1, t2, t3⟩ := cells4 K3.out; obtain ⟨u0, u1, u2, u3, u4, u5, u6⟩ := cells7 K4.out; obtain ⟨x0, x1, x2, x3, x4, x5, x6⟩ := cells7 K5.out; obtain ⟨y0, y1, y2, y3, y4, y5, y6⟩ := cells7 K6.out; have fy := fun i => Lib.frozen_of_heap K6.out i; unfold exV)
      | (go_at_call 56; (with_reducible refine (C3.out _ _ _ _ (HN.out _ (Array.getElem?_eq_some_iff.1 K6.out).1) X2.out HV.out).mono ?_); rintro e V3 ⟨⟨r1, r1', r2, r2', r3, r3', rfl, hx1⟩, hb⟩; have hv' : Below w.heap.size w V3 := (by first | exact HV.out.trans (Below.mono hb HV.out.size) | exact HV.out.drew.trans (Below.mono hb HV.out.size)); replace HV := Lib.hid hv'; clear hv'; have X3 := Lib.hid hx1; replace K3 := Lib.hid ((hb.block B3 (Array.getElem?_eq_some_iff.1 K3.out).1).trans K3.out); replace K4 := Lib.hid ((hb.block B4 (Array.getElem?_eq_some_iff.1 K4.out).1).trans K4.out); replace K5 := Lib.hid ((hb.block B5 (Array.getElem?_eq_some_iff.1 K5.out).1).trans K5.out); replace K6 := Lib.hid ((hb.block B6 (Array.getElem?_eq_some_iff.1 K6.out).1).trans K6.out); clear hx1 hb t0 t1 t2 t3 u0 u1 u2 u3 u4 u5 u6 x0 x1 x2 x3 x4 x5 x6 y0 y1 y2 y3 y4 y5 y6 fy; obtain ⟨t0, t1, t2, t3⟩ := cells4 K3.out; obtain ⟨u0, u1, u2, u3, u4, u5, u6⟩ := cells7 K4.out; obtain ⟨x0, x1, x2, x3, x4, x5, x6⟩ := cells7 K5.out; obtain ⟨y0, y1, y2, y3, y4, y5, y6⟩ := cells7 K6.out; have fy := fun i => Lib.frozen_of_heap K6.out i; unfold exV))
  all_goals go_wp2
  exact bodyPost_ret (v := exV v3 (.slice r1 v3.kids.length r1') (.slice r2 v3.alts.length r2') (.slice r3 v3.binds.length r3')) (by simp [results, Tryz.results40, go_sem, exV, y0, y1, y2, y3, y4, y5, y6]) rfl
    ⟨TreeRet.of ((X3.out.keep (fun k o hk ho => keep_set7 _ _ _ _ _ _ _ (by have := hk; rw [← HOK.out] at this; exact this.2) ho)).mono (fun k hk => by rw [← HOK.out] at hk; exact hk.1)), below_set7 HV.out hBB.out⟩
end Go.Proofs.YtdooeghicdaakaaGreatDoor
