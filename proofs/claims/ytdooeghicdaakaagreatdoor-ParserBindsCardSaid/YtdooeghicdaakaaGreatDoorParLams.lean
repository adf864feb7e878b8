/- Lambdas around a body. -/
import Derived.Test.YtdooeghicdaakaaGreatDoorParBack
import Derived.Test.YtdooeghicdaakaaGreatDoorParApp
import Derived.Test.YtdooeghicdaakaaGreatDoorSplit
namespace Go.Proofs.YtdooeghicdaakaaGreatDoor
open Go.RowKit
attribute [local go_sem] Oper.semAt_some

theorem lambdas_fold (pos : Int) (vs : List ByteArray) (e : E) : (List.range vs.length).reverse.foldl (fun b i => lamE pos (vs.getD i ⟨#[]⟩) b) e = lambdasE pos vs e := by
  rw [List.foldl_reverse]
  unfold lambdasE
  have : vs = (List.range vs.length).map (fun i => vs.getD i ⟨#[]⟩) := by
    apply List.ext_getElem
    · simp
    · intro i h1 h2; simp [List.getD, h1]
  conv => rhs; rw [this]
  rw [List.foldr_map]
theorem foldl_snoc (pos : Int) (vs : List ByteArray) (e : E) (pre : List Nat) (i : Nat) : (pre ++ [i]).foldl (fun b i => lamE pos (vs.getD i ⟨#[]⟩) b) e = lamE pos (vs.getD i ⟨#[]⟩) (pre.foldl (fun b i => lamE pos (vs.getD i ⟨#[]⟩) b) e) := by simp

theorem heap_set7 {w : World} {B k : Nat} (v0 v1 v2 v3 v4 v5 v6 : Value) (hk : k ≠ B) : (((((((w.setCell ⟨B, 0, none⟩ v0).setCell ⟨B, 1, none⟩ v1).setCell ⟨B, 2, none⟩ v2).setCell ⟨B, 3, none⟩ v3).setCell ⟨B, 4, none⟩ v4).setCell ⟨B, 5, none⟩ v5).setCell ⟨B, 6, none⟩ v6).heap[k]? = w.heap[k]? := by
  rw [Below.heap_setCell _ _ _ _ hk, Below.heap_setCell _ _ _ _ hk, Below.heap_setCell _ _ _ _ hk, Below.heap_setCell _ _ _ _ hk, Below.heap_setCell _ _ _ _ hk, Below.heap_setCell _ _ _ _ hk, Below.heap_setCell _ _ _ _ hk]
theorem size_set7 {w : World} {B : Nat} (v0 v1 v2 v3 v4 v5 v6 : Value) : (((((((w.setCell ⟨B, 0, none⟩ v0).setCell ⟨B, 1, none⟩ v1).setCell ⟨B, 2, none⟩ v2).setCell ⟨B, 3, none⟩ v3).setCell ⟨B, 4, none⟩ v4).setCell ⟨B, 5, none⟩ v5).setCell ⟨B, 6, none⟩ v6).heap.size = w.heap.size := by simp only [World.size_setCell]
theorem others_set7 {w : World} {B : Nat} (v0 v1 v2 v3 v4 v5 v6 : Value) : KeepsOthers w (((((((w.setCell ⟨B, 0, none⟩ v0).setCell ⟨B, 1, none⟩ v1).setCell ⟨B, 2, none⟩ v2).setCell ⟨B, 3, none⟩ v3).setCell ⟨B, 4, none⟩ v4).setCell ⟨B, 5, none⟩ v5).setCell ⟨B, 6, none⟩ v6) :=
  ((((((KeepsOthers.setCell _ _ _).trans (KeepsOthers.setCell _ _ _)).trans (KeepsOthers.setCell _ _ _)).trans (KeepsOthers.setCell _ _ _)).trans (KeepsOthers.setCell _ _ _)).trans (KeepsOthers.setCell _ _ _)).trans (KeepsOthers.setCell _ _ _)

set_option maxRecDepth 100000 in
set_option maxHeartbeats 1000000 in
theorem backward_any (a : Option Addr) (n c : Nat) (w : World) : Calls Tryz.prog 49 #[.slice a n c] w fun e w' => e = .returned (.func (.func 71) #[] #[.pointer (some ⟨w.heap.size, 0, none⟩)]) ∧ w.alloc (.cells #[.slice a n c] 23) = w' := by
  go_enter Tryz.func49, Tryz.ntmps49
  go_wp2
  go_ret
  exact ⟨rfl, rfl⟩

set_option maxRecDepth 100000 in
set_option maxHeartbeats 8000000 in
theorem lambdas_any (ok : Nat → Prop) (pos : Int) (vs : List ByteArray) (hvs : vs.length ≤ 20001) (v : Value) (e : E) (l a b : Value) (w : World) (hok : ∀ k, w.heap.size ≤ k → ok k) (hv : TextsAt w v vs) (he : ExIn ok w e l a b) :
    Calls Tryz.prog 31 #[.int .i64 pos, v, exV e l a b] w fun en w' => TreeRet ok (lambdasE pos vs e) en w' ∧ Below w.heap.size w w' := by
  obtain ⟨⟨p1, n1, rfl⟩, ⟨p2, n2, rfl⟩, ⟨p3, n3, rfl⟩⟩ := he.shape
  obtain ⟨va, vcap, rfl, hv⟩ := hv
  obtain ⟨g, hg1, hg2, hrow⟩ : ∃ g, (g = w.heap.size + 1 + 1 + 1 ∨ g < w.heap.size) ∧ True ∧ ∀ i, i < vs.length → va = some ⟨g, 0, none⟩ ∧ vs.length ≤ vcap ∧ w.cell? ⟨g, i, none⟩ = some (.string (vs.getD i ⟨#[]⟩)) := by
    rcases hv with h | ⟨g, e1, hc, cs, fz, hg, hi⟩
    · subst h
      exact ⟨_, .inl rfl, trivial, fun i hi => by simp at hi⟩
    · refine ⟨g, .inr (Array.getElem?_eq_some_iff.1 hg).1, trivial, fun i h => ⟨e1, hc, ?_⟩⟩
      simp only [World.cell?, hg]
      simpa [List.getD, h] using hi i h
  clear hv
  unfold exV
  refine (callsIn_wide (n := 3)).1 ?_
  refine callsIn_of_wp_marks Tryz.func31 rfl trivial ?_ rfl
  simp only [Tryz.ntmps31, List.size_toArray, List.length_cons, List.length_nil, Nat.reduceAdd, Nat.reduceSub, Array.replicate_succ, Array.replicate_zero, List.push_toArray, List.append_toArray, List.nil_append, List.cons_append]
  have hb4 : ∀ o1 o2 o3 o4 : Obj, Below w.heap.size w ((((w.alloc o1).alloc o2).alloc o3).alloc o4) := fun o1 o2 o3 o4 => ((((Below.refl w.heap.size w).alloc (Nat.le_refl _) o1).alloc (by simp) o2).alloc (by simp; omega) o3).alloc (by simp; omega) o4
  have Hb4 := Lib.hid hb4; clear hb4
  have HE := Lib.hid he
  have HRow := Lib.hid hrow
  clear he hrow hg2
  gi_wp2_with (refine ⟨trivial, ?_⟩; gi_at_call 49; refine (callsIn_wide.2 (backward_any _ _ _ _)).mono ?_; rintro e1 w1 ⟨rfl, rfl⟩)
  have q3 := new1 w (.cells #[.int .i64 pos] 3) (.cells #[.int .i64 e.kind, .int .i64 e.pos, .string e.name, .int .i64 e.num, .slice p1 e.kids.length n1, .slice p2 e.alts.length n2, .slice p3 e.binds.length n3] 28) (.cells #[.int .i64 0, .int .i64 0, .string ⟨#[]⟩, .int .i64 0, .slice none 0 0, .slice none 0 0, .slice none 0 0] 28) (.cells #[.slice va vs.length vcap] 23)
  have q5 := new2 w (.cells #[.int .i64 pos] 3) (.cells #[.int .i64 e.kind, .int .i64 e.pos, .string e.name, .int .i64 e.num, .slice p1 e.kids.length n1, .slice p2 e.alts.length n2, .slice p3 e.binds.length n3] 28) (.cells #[.int .i64 0, .int .i64 0, .string ⟨#[]⟩, .int .i64 0, .slice none 0 0, .slice none 0 0, .slice none 0 0] 28) (.cells #[.slice va vs.length vcap] 23)
  have q6 := new3 w (.cells #[.int .i64 pos] 3) (.cells #[.int .i64 e.kind, .int .i64 e.pos, .string e.name, .int .i64 e.num, .slice p1 e.kids.length n1, .slice p2 e.alts.length n2, .slice p3 e.binds.length n3] 28) (.cells #[.int .i64 0, .int .i64 0, .string ⟨#[]⟩, .int .i64 0, .slice none 0 0, .slice none 0 0, .slice none 0 0] 28) (.cells #[.slice va vs.length vcap] 23)
  have q7 := new4 w (.cells #[.int .i64 pos] 3) (.cells #[.int .i64 e.kind, .int .i64 e.pos, .string e.name, .int .i64 e.num, .slice p1 e.kids.length n1, .slice p2 e.alts.length n2, .slice p3 e.binds.length n3] 28) (.cells #[.int .i64 0, .int .i64 0, .string ⟨#[]⟩, .int .i64 0, .slice none 0 0, .slice none 0 0, .slice none 0 0] 28) (.cells #[.slice va vs.length vcap] 23)
  have hB0 := Hb4.out (.cells #[.int .i64 pos] 3) (.cells #[.int .i64 e.kind, .int .i64 e.pos, .string e.name, .int .i64 e.num, .slice p1 e.kids.length n1, .slice p2 e.alts.length n2, .slice p3 e.binds.length n3] 28) (.cells #[.int .i64 0, .int .i64 0, .string ⟨#[]⟩, .int .i64 0, .slice none 0 0, .slice none 0 0, .slice none 0 0] 28) (.cells #[.slice va vs.length vcap] 23)
  have hsz : ((((w.alloc (.cells #[.int .i64 pos] 3)).alloc (.cells #[.int .i64 e.kind, .int .i64 e.pos, .string e.name, .int .i64 e.num, .slice p1 e.kids.length n1, .slice p2 e.alts.length n2, .slice p3 e.binds.length n3] 28)).alloc (.cells #[.int .i64 0, .int .i64 0, .string ⟨#[]⟩, .int .i64 0, .slice none 0 0, .slice none 0 0, .slice none 0 0] 28)).alloc (.cells #[.slice va vs.length vcap] 23)).heap.size = w.heap.size + 1 + 1 + 1 + 1 := by simp
  obtain ⟨W0, hW0⟩ : ∃ W0, ((((w.alloc (.cells #[.int .i64 pos] 3)).alloc (.cells #[.int .i64 e.kind, .int .i64 e.pos, .string e.name, .int .i64 e.num, .slice p1 e.kids.length n1, .slice p2 e.alts.length n2, .slice p3 e.binds.length n3] 28)).alloc (.cells #[.int .i64 0, .int .i64 0, .string ⟨#[]⟩, .int .i64 0, .slice none 0 0, .slice none 0 0, .slice none 0 0] 28)).alloc (.cells #[.slice va vs.length vcap] 23)) = W0 := ⟨_, rfl⟩
  rw [hW0] at q3 q5 q6 q7 hB0 hsz ⊢
  clear hW0 Hb4
  have hc7 : W0.cell? ⟨w.heap.size + 1 + 1 + 1, 0, none⟩ = some (.slice va vs.length vcap) := by simp [World.cell?, q7]
  have hr0 : ∀ i, i < vs.length → va = some ⟨g, 0, none⟩ ∧ vs.length ≤ vcap ∧ W0.cell? ⟨g, i, none⟩ = some (.string (vs.getD i ⟨#[]⟩)) := fun i hi => by
    obtain ⟨f1, f2, f3⟩ := HRow.out i hi
    exact ⟨f1, f2, (hB0.cell (p := ⟨g, i, none⟩) (World.block_lt_of_cell? _ _ f3)).trans f3⟩
  refine range_told (n := 3) (σ := E) (by omega) (gf := 71) (lb := #[.pointer (some ⟨w.heap.size + 1 + 1 + 1, 0, none⟩)]) rfl (enters_of Tryz.func71 (by kernel_rfl) rfl)
    (back_told 2 (by omega) vs hvs va vcap g (w.heap.size + 1 + 1 + 1) W0 hc7 hr0)
    (fun k hk => by rcases hk with rfl | rfl <;> omega) (Below.refl _ _) (fun x => rfl)
    (fun x pre W => (Lies (fun k => ok k ∧ k ≠ w.heap.size + 1 ∧ k ≠ w.heap.size + 1 + 1) (w.heap.size + 1) x W ∧ Boxed W w.heap.size 3 (.int .i64 pos)) ∧ (Empty7 (w.heap.size + 1 + 1) W ∧ x = pre.foldl (fun b i => lamE pos (vs.getD i ⟨#[]⟩) b) e) ∧ Below w.heap.size w W)
    (fun _ _ => False)
    (fun _ k => k = w.heap.size + 1)
    ?hI ?hIx ?hT ⟨e, ⟨⟨p1, n1, p2, n2, p3, n3, q5, ((HE.out.lt.mono (fun k hk => ⟨hk.1, by omega, by omega⟩)).keep (keep_of_below hB0))⟩, q3⟩, ⟨q6, rfl⟩, hB0⟩
    (fun i a' W => a' = { tmps := #[.int .i64 pos, .slice va vs.length vcap, .agg #[.int .i64 e.kind, .int .i64 e.pos, .string e.name, .int .i64 e.num, .slice p1 e.kids.length n1, .slice p2 e.alts.length n2, .slice p3 e.binds.length n3], .pointer (some ⟨w.heap.size, 0, none⟩), undef, .pointer (some ⟨w.heap.size + 1, 0, none⟩), .pointer (some ⟨w.heap.size + 1 + 1, 0, none⟩), undef, .string (vs.getD i ⟨#[]⟩), .slice va vs.length vcap, .func (.func 71) #[] #[.pointer (some ⟨w.heap.size + 1 + 1 + 1, 0, none⟩)], .int .i64 (i : Int), .string (vs.getD i ⟨#[]⟩), undef, undef, undef, undef, undef, undef], defers := [] })
    ?hAx ?assign ?body ?done ?stop
  case hI =>
    rintro x pre X Y row ⟨⟨⟨r1, o1, r2, o2, r3, o3, hL1, hL2⟩, hb⟩, ⟨hE, hx⟩, hB⟩ hgr hrr
    have tr : ∀ r, row = some r → ∃ o : Obj, X.heap[r]? = some o ∧ o.isCells = false := fun r e => (hrr r e).2
    exact ⟨⟨⟨r1, o1, r2, o2, r3, o3, block_kept hL1 hgr tr, hL2.keepC (fun k cs T fz _ ho => block_kept ho hgr tr)⟩, block_kept hb hgr tr⟩, ⟨block_kept hE hgr tr, hx⟩, ownFrom_below (β := Unit) (Nat.le_refl _) (by omega) () X Y row hB hgr hrr⟩
  case hIx => exact fun _ _ _ _ h => h.elim
  case hT =>
    rintro x pre X k ⟨⟨hL, _⟩, _⟩ rfl
    exact ⟨hL.lt, fun hk => by rcases hk with hk | hk <;> omega⟩
  case hAx => exact fun x a' _ X Y row h _ _ => h
  case assign =>
    rintro l x pre i X C hI0 hex hC
    dsimp only [encB]
    gi_wp2
    exact hC _ _ ((KeepsOthers.refl _).from _) (Below.refl _ _) rfl
  case body =>
    rintro l x pre i a' X ⟨⟨⟨r1, o1, r2, o2, r3, o3, hL1, hL2⟩, hb⟩, ⟨hE, hx⟩, hB⟩ hlen rfl
    obtain ⟨y0, y1, y2, y3, y4, y5, y6⟩ := cells7 hL1
    have fy := fun i => Lib.frozen_of_heap hL1 i
    have c3 := hb.cell
    have l5 := (Array.getElem?_eq_some_iff.1 hL1).1
    obtain ⟨t, ht⟩ : ∃ t, vs.getD i ⟨#[]⟩ = t := ⟨_, rfl⟩
    have HX2 := Lib.hid hL2; have HL1 := Lib.hid hL1; have HEE := Lib.hid hE; have HXX := Lib.hid hx; have HBB := Lib.hid hB; have Hbb := Lib.hid hb; have HTT := Lib.hid ht
    rw [ht]
    clear hL2 hL1 hE hx hB hb ht hr0 hc7 q3 q5 q6 q7
    gi_wp2
    have l6 := (Array.getElem?_eq_some_iff.1 HEE.out).1
    have hlow := hsz
    have hB := HBB.out.size
    have zs := block_set7 HL1.out (.int .i64 6) (.int .i64 pos) (.string t) (.int .i64 0) (.slice (some ⟨X.heap.size, 0, none⟩) 1 1) (.slice none 0 0) (.slice none 0 0)
    have zn := size_set7 (w := X) (B := w.heap.size + 1) (.int .i64 6) (.int .i64 pos) (.string t) (.int .i64 0) (.slice (some ⟨X.heap.size, 0, none⟩) 1 1) (.slice none 0 0) (.slice none 0 0)
    have zo := others_set7 (w := X) (B := w.heap.size + 1) (.int .i64 6) (.int .i64 pos) (.string t) (.int .i64 0) (.slice (some ⟨X.heap.size, 0, none⟩) 1 1) (.slice none 0 0) (.slice none 0 0)
    have zh := fun k hk => heap_set7 (w := X) (B := w.heap.size + 1) (k := k) (.int .i64 6) (.int .i64 pos) (.string t) (.int .i64 0) (.slice (some ⟨X.heap.size, 0, none⟩) 1 1) (.slice none 0 0) (.slice none 0 0) hk
    have zb := below_set7 (v0 := .int .i64 6) (v1 := .int .i64 pos) (v2 := .string t) (v3 := .int .i64 0) (v4 := .slice (some ⟨X.heap.size, 0, none⟩) 1 1) (v5 := .slice none 0 0) (v6 := .slice none 0 0) HBB.out (Nat.le_succ w.heap.size)
    obtain ⟨Z, hZ⟩ : ∃ Z, (((((((X.setCell ⟨w.heap.size + 1, 0, none⟩ (.int .i64 6)).setCell ⟨w.heap.size + 1, 1, none⟩ (.int .i64 pos)).setCell ⟨w.heap.size + 1, 2, none⟩ (.string t)).setCell ⟨w.heap.size + 1, 3, none⟩ (.int .i64 0)).setCell ⟨w.heap.size + 1, 4, none⟩ (.slice (some ⟨X.heap.size, 0, none⟩) 1 1)).setCell ⟨w.heap.size + 1, 5, none⟩ (.slice none 0 0)).setCell ⟨w.heap.size + 1, 6, none⟩ (.slice none 0 0)) = Z := ⟨_, rfl⟩
    rw [hZ] at zs zn zo zb ⊢
    simp only [hZ] at zh
    clear hZ
    refine ⟨(zo.trans (KeepsOthers.alloc _ _)).from _, fun k hk hkX => (Below.heap_alloc Z _ k (by omega)).trans (zh k hk), lamE pos t x, ⟨⟨some ⟨X.heap.size, 0, none⟩, 1, none, 0, none, 0, (Below.heap_alloc Z _ _ (by omega)).trans zs, ?_⟩, (Below.heap_alloc Z _ _ (by omega)).trans ((zh _ (by omega)).trans Hbb.out)⟩, ⟨(Below.heap_alloc Z _ _ (by omega)).trans ((zh _ (by omega)).trans HEE.out), ?_⟩, zb.alloc (by omega) _⟩
    · exact ExIn.one 6 pos t 0 x (HX2.out.keep (fun k o hk ho => (Below.heap_alloc Z _ k (by rw [zn]; exact (Array.getElem?_eq_some_iff.1 ho).1)).trans ((zh k hk.2.1).trans ho))) (by rw [← zn]; exact World.alloc_heap_new Z _) ⟨hok _ (by omega), by omega, by omega⟩
    · rw [foldl_snoc, ← HXX.out, HTT.out]
  case done =>
    rintro D x xs W hD rfl ⟨⟨⟨r1, o1, r2, o2, r3, o3, hL1, hL2⟩, hb⟩, ⟨hE, hx⟩, hB⟩ hK
    have HXe := Lib.hid (hx.trans (lambdas_fold pos vs e))
    obtain ⟨y0, y1, y2, y3, y4, y5, y6⟩ := cells7 hL1
    obtain ⟨z0, z1, z2, z3, z4, z5, z6⟩ := cells7 hE
    have fy := fun i => Lib.frozen_of_heap hE i
    have HX2 := Lib.hid hL2; have HEE := Lib.hid hE; have HBB := Lib.hid hB; have HK := Lib.hid hK
    have l6 := (Array.getElem?_eq_some_iff.1 hE).1
    clear hL2 hL1 hE hx hB hb hr0 hc7 q3 q5 q6 q7 hK
    gi_wp2
    have zs := block_set7 HEE.out (.int .i64 x.kind) (.int .i64 x.pos) (.string x.name) (.int .i64 x.num) (.slice r1 x.kids.length o1) (.slice r2 x.alts.length o2) (.slice r3 x.binds.length o3)
    have zh := fun k hk => heap_set7 (w := W) (B := w.heap.size + 1 + 1) (k := k) (.int .i64 x.kind) (.int .i64 x.pos) (.string x.name) (.int .i64 x.num) (.slice r1 x.kids.length o1) (.slice r2 x.alts.length o2) (.slice r3 x.binds.length o3) hk
    have zb := below_set7 (v0 := .int .i64 x.kind) (v1 := .int .i64 x.pos) (v2 := .string x.name) (v3 := .int .i64 x.num) (v4 := .slice r1 x.kids.length o1) (v5 := .slice r2 x.alts.length o2) (v6 := .slice r3 x.binds.length o3) HBB.out (show w.heap.size ≤ w.heap.size + 1 + 1 by omega)
    obtain ⟨Z, hZ⟩ : ∃ Z, (((((((W.setCell ⟨w.heap.size + 1 + 1, 0, none⟩ (.int .i64 x.kind)).setCell ⟨w.heap.size + 1 + 1, 1, none⟩ (.int .i64 x.pos)).setCell ⟨w.heap.size + 1 + 1, 2, none⟩ (.string x.name)).setCell ⟨w.heap.size + 1 + 1, 3, none⟩ (.int .i64 x.num)).setCell ⟨w.heap.size + 1 + 1, 4, none⟩ (.slice r1 x.kids.length o1)).setCell ⟨w.heap.size + 1 + 1, 5, none⟩ (.slice r2 x.alts.length o2)).setCell ⟨w.heap.size + 1 + 1, 6, none⟩ (.slice r3 x.binds.length o3)) = Z := ⟨_, rfl⟩
    rw [hZ] at zs zb ⊢
    simp only [hZ] at zh
    clear hZ
    have hKZ := (zh D (by omega)).trans HK.out
    have turn : ∀ r, some D = some r → ∃ o : Obj, Z.heap[r]? = some o ∧ o.isCells = false := fun r e => by cases e; exact ⟨_, hKZ, rfl⟩
    have ys := block_kept zs (grownBy_putObj' Z D (.deferred none)) turn
    have yB := zb.trans (belowK_b (w := w) (Nat.le_refl _) Z D _ (.deferred none) (by omega) hKZ rfl rfl)
    obtain ⟨d0, d1, d2, d3, d4, d5, d6⟩ := cells7 ys
    have hX := (HX2.out.keep (fun k o hk ho => (zh k hk.2.2).trans ho)).keepC (fun k cs T fz _ ho => block_kept ho (grownBy_putObj' Z D (.deferred none)) turn)
    refine ⟨by simp, .inl ⟨_, _, rfl, run_takeDeferred hKZ, ?_⟩⟩
    refine ⟨exV x (.slice r1 x.kids.length o1) (.slice r2 x.alts.length o2) (.slice r3 x.binds.length o3), by simp [results, Tryz.results31, go_sem, exV, d0, d1, d2, d3, d4, d5, d6], ?_, yB⟩
    rw [← HXe.out]
    exact TreeRet.of (hX.mono (fun k hk => hk.1))
  case stop => exact fun D pre W hD hS h hK => h.elim
end Go.Proofs.YtdooeghicdaakaaGreatDoor
