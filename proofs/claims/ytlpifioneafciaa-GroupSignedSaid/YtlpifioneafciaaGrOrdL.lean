/- GroupOrders: the law. -/
import Derived.Test.YtlpifioneafciaaGrComes
namespace Go.Proofs.Ytlpifioneafciaa
open Go.RowKit Go.Maps Go.Lib
attribute [local go_sem] Oper.semAt_some

/-- A row of numbers, whatever their sign, in block s. -/
def ZAt (s n : Nat) (A : Nat → Int) (w : World) : Prop := ∃ cs, w.heap[s]? = some (.cells cs 3 (0, 0)) ∧ cs.size = n ∧ ∀ i, i < n → cs[i]? = some (.int .i64 (A i))
theorem ZAt.cell {s n i : Nat} {A : Nat → Int} {w : World} (h : ZAt s n A w) (hi : i < n) : w.cell? ⟨s, i, none⟩ = some (.int .i64 (A i)) ∧ w.frozen? ⟨s, i, none⟩ = false ∧ s < w.heap.size := by
  obtain ⟨cs, h1, h2, h3⟩ := h
  exact ⟨by rw [Lib.cell_of_heap h1]; exact h3 i hi, Lib.frozen_of_heap h1 i, heap_at h1⟩
theorem ZAt.set {s n i : Nat} {A : Nat → Int} {w : World} (h : ZAt s n A w) (hi : i < n) (v : Int) : ZAt s n (updA A i v) (w.setCell ⟨s, i, none⟩ (.int .i64 v)) := by
  obtain ⟨cs, h1, h2, h3⟩ := h
  refine ⟨_, blk_setG h1 _, by simpa using h2, fun j hj => ?_⟩
  by_cases e : j = i
  · subst e; rw [updA_same]; simp [h2, hj]
  · rw [updA_ne A _ e, Array.getElem?_setIfInBounds_ne (Ne.symm e)]; exact h3 j hj
theorem ZAt.below {s n : Nat} {A : Nat → Int} {w w' : World} (h : ZAt s n A w) (hb : Below w.heap.size w w') : ZAt s n A w' := by
  obtain ⟨cs, h1, h2⟩ := h
  exact ⟨cs, (hb.block s (heap_at h1)).trans h1, h2⟩
theorem ZAt.start (w : World) (n : Nat) : ZAt w.heap.size n (fun _ => 0) (w.alloc (.cells (madeCells #[.int .i64 0] n) 3)) := by
  refine ⟨madeCells #[.int .i64 0] n, (by show (w.heap.push _)[w.heap.size]? = _; simp), by simp [size_madeCells], fun i hi => ?_⟩
  have := toList_madeCells_one (.int .i64 0) n
  rw [← Array.getElem?_toList, this]
  simp [hi]
theorem RowsAt.mono {B B' g n : Nat} {needs : Nat → List Nat} {w : World} (h : RowsAt B g n needs w) (hB : B ≤ B') : RowsAt B' g n needs w := by
  obtain ⟨cs, fz, h1, h2, h3⟩ := h
  exact ⟨cs, fz, h1, h2, fun i hi => by obtain ⟨v, e, hr⟩ := h3 i hi; exact ⟨v, e, hr.mono hB⟩⟩
theorem RowsAt.cell {B g n i : Nat} {needs : Nat → List Nat} {w : World} (h : RowsAt B g n needs w) (hi : i < n) : ∃ a c, w.cell? ⟨g, i, none⟩ = some (.slice a (needs i).length c) ∧ RowN B (.slice a (needs i).length c) (needs i) w := by
  obtain ⟨cs, fz, h1, h2, h3⟩ := h
  obtain ⟨v, e, hr⟩ := h3 i hi
  obtain ⟨a, c, rfl⟩ := hr.shape
  exact ⟨a, c, by rw [Lib.cell_of_heap h1]; exact e, hr⟩
theorem spec_none (nd : Nat → List Nat) : GrSpec 0 nd [] := ⟨fun g hg => (by cases hg), fun g hg => (by cases hg), fun i hi => (by omega), List.Pairwise.nil, List.Pairwise.nil, fun A g B e => (by simp at e)⟩
/-- Order of whatever number. -/
theorem order_all {g n : Nat} {nd : Nat → List Nat} (w : World) (h : RowsAt w.heap.size g n nd w) (hn : n < 100000000) (hne : ∀ i, i < n → ∀ x ∈ nd i, x < n) (hL : sumN nd n < 1000000000) :
    Calls Try.prog 9 #[.int .i64 (n : Int), .slice (some ⟨g, 0, none⟩) n n] w fun e w' => (∃ (tv : Value) (gs : List (List Nat)), e = .returned tv ∧ GrSpec n nd gs ∧ GsR w.heap.size tv gs w') ∧ Below w.heap.size w w' := by
  by_cases h0 : 0 < n
  · exact orderN_any w h h0 hn (Nat.le_refl _) hne hL
  · obtain rfl : n = 0 := by omega
    have hz : (((0 : Nat) : Int)) = 0 := rfl
    rw [hz]
    go_enter Try.func9, Try.ntmps9
    go_wp2
    go_ret
    exact ⟨⟨_, [], rfl, spec_none nd, ⟨[], World.ownsRow_nil _ _ _ _, rfl, fun i hi => (by cases hi)⟩⟩, Below.refl _ _⟩
theorem GrSpec.len {n : Nat} {nd : Nat → List Nat} {gs : List (List Nat)} (h : GrSpec n nd gs) : gs.length ≤ n := by
  have hd : ∀ g ∈ gs, g.headD 0 ∈ g := fun g hg => by
    obtain ⟨i, _, hi, _⟩ := h.cls g hg
    cases g with
    | nil => cases hi
    | cons a l => exact List.mem_cons_self ..
  have h1 := nodup_range_len (n := n) (l := gs.map fun g => g.headD 0) (List.pairwise_map.2 (h.dis.imp_of_mem fun {g k} hg hk hh e => hh _ (hd g hg) (e ▸ hd k hk))) fun x hx => by
    obtain ⟨g, hg, rfl⟩ := List.mem_map.1 hx
    exact h.lt hg (hd g hg)
  simpa using h1
theorem GrSpec.len1 {n : Nat} {nd : Nat → List Nat} {gs : List (List Nat)} (h : GrSpec n nd gs) {g : List Nat} (hg : g ∈ gs) : g.length ≤ n :=
  nodup_range_len ((h.srt g hg).imp fun hlt e => by omega) fun x hx => h.lt hg hx
theorem GsR.rowAt {B m gc : Nat} {ga : Option Addr} {gs : List (List Nat)} {w : World} (h : GsR B (.slice ga m gc) gs w) {i : Nat} (hi : i < gs.length) : ∃ q, ga = some ⟨q, 0, none⟩ ∧ ∃ a c, w.cell? ⟨q, i, none⟩ = some (.slice a (gs.getD i []).length c) ∧ RowQ (fun k => B ≤ k) (.slice a (gs.getD i []).length c) (gs.getD i []) w := by
  obtain ⟨q, cap, e, _, _, hr⟩ := h.at (by omega)
  cases e
  exact ⟨q, rfl, hr i hi⟩
/-- Where each one stands, so far. -/
structure PosI (gs : List (List Nat)) (n : Nat) (A : Nat → Int) (i k : Nat) : Prop where
  old : ∀ v, v < n → ∀ j, j < i → v ∈ gs.getD j [] → A v = (j : Int)
  cur : ∀ v, v < n → ∀ m, m < k → (gs.getD i []).getD m 0 = v → A v = (i : Int)
  none : ∀ v, v < n → (∀ j, j < i → v ∉ gs.getD j []) → (∀ m, m < k → (gs.getD i []).getD m 0 ≠ v) → A v = -1
theorem GrSpec.apart {n : Nat} {nd : Nat → List Nat} {gs : List (List Nat)} (h : GrSpec n nd gs) {i j v : Nat} (hj : j < gs.length) (hij : i < j) (hi : v ∈ gs.getD i []) : v ∉ gs.getD j [] := by
  have h1 := List.pairwise_iff_getElem.1 h.dis i j (by omega) hj hij v
  simp only [List.getD_eq_getElem?_getD, List.getElem?_eq_getElem (show i < gs.length by omega), List.getElem?_eq_getElem hj, Option.getD_some] at hi ⊢
  exact h1 hi
theorem GrSpec.inside {n : Nat} {nd : Nat → List Nat} {gs : List (List Nat)} (_ : GrSpec n nd gs) {i : Nat} (hi : i < gs.length) : gs.getD i [] ∈ gs := by
  simp [List.getD, hi]
theorem getD_get {l : List Nat} {k : Nat} (h : k < l.length) : l.getD k 0 = l[k] := by simp [List.getD, h]
theorem getD_mem {l : List Nat} {k : Nat} (h : k < l.length) : l.getD k 0 ∈ l := by simp [List.getD, h]
theorem GrSpec.rise {n : Nat} {nd : Nat → List Nat} {gs : List (List Nat)} (h : GrSpec n nd gs) {i k m : Nat} (hi : i < gs.length) (hk : k < (gs.getD i []).length) (hm : m < k) : (gs.getD i []).getD m 0 < (gs.getD i []).getD k 0 := by
  have h1 := List.pairwise_iff_getElem.1 (h.srt _ (h.inside hi)) m k (by omega) hk hm
  rw [getD_get hk, getD_get (show m < (gs.getD i []).length by omega)]; exact h1
theorem PosI.start {gs : List (List Nat)} {n : Nat} {A : Nat → Int} (h : ∀ v, v < n → A v = -1) : PosI gs n A 0 0 := ⟨fun v _ j hj => by omega, fun v _ m hm => by omega, fun v hv _ _ => h v hv⟩
theorem PosI.free {n : Nat} {nd : Nat → List Nat} {gs : List (List Nat)} {A : Nat → Int} {i k : Nat} (h : PosI gs n A i k) (hs : GrSpec n nd gs) (hi : i < gs.length) (hk : k < (gs.getD i []).length) : A ((gs.getD i []).getD k 0) = -1 := by
  refine h.none _ (hs.lt (hs.inside hi) (getD_mem hk)) (fun j hj hm => hs.apart hi hj hm (getD_mem hk)) fun m hm e => ?_
  have := hs.rise hi hk hm
  omega
theorem PosI.add {n : Nat} {nd : Nat → List Nat} {gs : List (List Nat)} {A : Nat → Int} {i k : Nat} (h : PosI gs n A i k) (hs : GrSpec n nd gs) (hi : i < gs.length) (hk : k < (gs.getD i []).length) : PosI gs n (updA A ((gs.getD i []).getD k 0) (i : Int)) i (k + 1) := by
  refine ⟨fun v hv j hj hm => ?_, fun v hv m hm e => ?_, fun v hv h1 h2 => ?_⟩
  · by_cases e : v = (gs.getD i []).getD k 0
    · exact absurd (getD_mem hk) (e ▸ hs.apart hi hj hm)
    · rw [updA_ne A _ e]; exact h.old v hv j hj hm
  · by_cases e2 : v = (gs.getD i []).getD k 0
    · rw [e2, updA_same]
    · rw [updA_ne A _ e2]
      by_cases e3 : m = k
      · exact absurd (e3 ▸ e).symm e2
      · exact h.cur v hv m (by omega) e
  · have e : v ≠ (gs.getD i []).getD k 0 := fun e => h2 k (by omega) e.symm
    rw [updA_ne A _ e]
    exact h.none v hv h1 fun m hm => h2 m (by omega)
theorem PosI.next {gs : List (List Nat)} {n : Nat} {A : Nat → Int} {i : Nat} (h : PosI gs n A i (gs.getD i []).length) : PosI gs n A (i + 1) 0 := by
  refine ⟨fun v hv j hj hm => ?_, fun v _ m hm => by omega, fun v hv h1 _ => ?_⟩
  · by_cases e : j = i
    · subst e
      obtain ⟨m, hm1, hm2⟩ := List.getElem_of_mem hm
      exact h.cur v hv m hm1 (by rw [getD_get hm1]; exact hm2)
    · exact h.old v hv j (by omega) hm
  · exact h.none v hv (fun j hj => h1 j (by omega)) fun m hm e => h1 i (by omega) (e ▸ getD_mem hm)
/-- At the end each one's place is its group's. -/
def PosE (gs : List (List Nat)) (n : Nat) (A : Nat → Int) : Prop := ∀ v, v < n → ∃ p, p < gs.length ∧ A v = (p : Int) ∧ v ∈ gs.getD p []
theorem PosI.end {n : Nat} {nd : Nat → List Nat} {gs : List (List Nat)} {A : Nat → Int} (h : PosI gs n A gs.length 0) (hs : GrSpec n nd gs) : PosE gs n A := fun v hv => by
  obtain ⟨g, hg, hvg⟩ := hs.all v hv
  obtain ⟨p, hp, rfl⟩ := List.getElem_of_mem hg
  have e : gs.getD p [] = gs[p] := by simp [List.getD, hp]
  exact ⟨p, hp, h.old v hv p hp (e ▸ hvg), e ▸ hvg⟩
theorem PosE.le {n : Nat} {nd : Nat → List Nat} {gs : List (List Nat)} {A : Nat → Int} (h : PosE gs n A) (hs : GrSpec n nd gs) {i j : Nat} (hi : i < n) (hj : j < n) (hr : Rch nd i j) : A j ≤ A i := by
  obtain ⟨p, p1, p2, p3⟩ := h i hi
  obtain ⟨q, q1, q2, q3⟩ := h j hj
  rw [p2, q2]
  by_cases hlt : p < q
  · have := List.pairwise_iff_getElem.1 hs.ord p q p1 q1 hlt
    simp only [List.getD_eq_getElem?_getD, List.getElem?_eq_getElem p1, List.getElem?_eq_getElem q1, Option.getD_some] at p3 q3
    exact absurd hr (this i p3 j q3)
  · omega
theorem PosE.same {n : Nat} {nd : Nat → List Nat} {gs : List (List Nat)} {A : Nat → Int} (h : PosE gs n A) (hs : GrSpec n nd gs) {i j : Nat} (hi : i < n) (hj : j < n) (he : A i = A j) : Rch nd i j ∧ Rch nd j i := by
  obtain ⟨p, p1, p2, p3⟩ := h i hi
  obtain ⟨q, q1, q2, q3⟩ := h j hj
  obtain rfl : p = q := by omega
  exact ((hs.mem (hs.inside p1) p3).1 q3).2
end Go.Proofs.Ytlpifioneafciaa
