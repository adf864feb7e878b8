/- Merged: SbFind, SbApply, UgFoundA, TyVars, TySize, SbApp. -/
import Derived.Test.YthpphjkoiipkkaaDoorUm7
import Derived.Test.YthpphjkoiipkkaaDoorUm4
import Derived.Carry
/- (Subst).find: the type that a name has. -/
namespace Go.Proofs.YthpphjkoiipkkaaDoor
open Go.RowKit Go.Sort Go.Lib
attribute [local go_sem] Oper.semAt_some

def cmpN (x : PR) (n : ByteArray) : Int := cmpL x.n.data.toList n.data.toList
theorem cmpN_zero {x : PR} {n : ByteArray} : cmpN x n = 0 ↔ x.n = n := by
  have := name_of_cmp (x := x) (y := ⟨n, .var n, none, 0⟩)
  have h2 := cmp_of_name (x := x) (y := ⟨n, .var n, none, 0⟩)
  exact ⟨fun h => this h, fun h => h2 h⟩

set_option maxRecDepth 100000 in
set_option maxHeartbeats 1000000 in
theorem cmpN_any (x : PR) (n : ByteArray) (w : World) :
    Calls Tryd.prog 44 #[pairV x, .string n] w fun e w' => e = .returned (.int .i64 (cmpN x n)) ∧ Below w.heap.size w w' := by
  have HC := Lib.hid (fun W => cmpStr_any x.n n W)
  have hr : cmpL x.n.data.toList n.data.toList = cmpN x n := rfl
  rw [hr] at HC
  have HB := Lib.hid (show ∀ o1 : Obj, Below w.heap.size w (w.alloc o1) from fun o1 => (Below.refl _ w).alloc (Nat.le_refl _) _)
  clear hr
  generalize cmpN x n = r at *
  simp only [pairV]
  go_enter Tryd.func44, Tryd.ntmps44
  go_wp2_with (go_at_call 45; refine (HC.out _).mono ?_; rintro e w2 ⟨rfl, rfl⟩)
  go_ret
  exact ⟨rfl, HB.out _⟩

/-- In a row in order: what is less stands ahead. -/
theorem sorted_less {d : List PR} (h : Sorted d) (n : ByteArray) {a b : Nat} (hab : a ≤ b) (hb : b < d.length) (hl : cmpN (d.getD b noP) n < 0) : cmpN (d.getD a noP) n < 0 := by
  rcases Nat.lt_or_ge a b with hlt | hge
  · have h1 := List.pairwise_iff_getElem.1 h a b (by omega) hb hlt
    have ea : d.getD a noP = d[a] := by simp [List.getD, show a < d.length by omega]
    have eb : d.getD b noP = d[b] := by simp [List.getD, hb]
    rw [eb] at hl
    rw [ea]
    exact cmpP_trans (z := ⟨n, .var n, none, 0⟩) h1 hl
  · obtain rfl : a = b := by omega
    exact hl
/-- What the search finds. -/
def Found (d : List PR) (n : ByteArray) (i : Nat) (b : Bool) : Prop := (b = true ∧ i < d.length ∧ lk n d = some (d.getD i noP)) ∨ (b = false ∧ lk n d = none)
theorem found_yes {d : List PR} (h : Sorted d) {n : ByteArray} {i : Nat} (hi : i < d.length) (hz : cmpN (d.getD i noP) n = 0) : Found d n i true :=
  .inl ⟨rfl, hi, by have := lk_sorted h (getD_mem hi); rwa [cmpN_zero.1 hz] at this⟩
theorem found_no {d : List PR} {n : ByteArray} {i : Nat} (h1 : ∀ t, t < i → cmpN (d.getD t noP) n < 0) (h2 : ∀ t, i ≤ t → t < d.length → 0 ≤ cmpN (d.getD t noP) n) (h3 : i < d.length → cmpN (d.getD i noP) n ≠ 0) (hs : Sorted d) : Found d n i false := by
  refine .inr ⟨rfl, ?_⟩
  cases e : lk n d with
  | none => rfl
  | some x =>
    exfalso
    obtain ⟨hm, hn⟩ := lk_name e
    obtain ⟨t, ht, rfl⟩ := List.mem_iff_getElem.1 hm
    have et : d.getD t noP = d[t] := by simp [List.getD, ht]
    have hz : cmpN (d.getD t noP) n = 0 := by rw [et]; exact cmpN_zero.2 hn
    rcases Nat.lt_trichotomy t i with h | h | h
    · have := h1 t h; omega
    · subst h; exact h3 ht hz
    · have hi : i < d.length := by omega
      have h4 := h2 i (Nat.le_refl _) hi
      have h5 := h3 hi
      have h6 := List.pairwise_iff_getElem.1 hs i t hi ht h
      have ei : d.getD i noP = d[i] := by simp [List.getD, hi]
      rw [ei] at h4 h5
      rw [et] at hz
      have h7 := cmpN_zero.1 hz
      have h8 : cmpN d[i] n = cmpP d[i] d[t] := by unfold cmpN cmpP; rw [h7]
      omega

set_option maxRecDepth 100000 in
set_option maxHeartbeats 4000000 in
theorem search_some (g cap : Nat) (d : List PR) (n : ByteArray) (w : World) (h : RowP g d w) (hs : Sorted d) (hl : d.length < 1152921504606846976) :
    Calls Tryd.prog 43 #[.slice (some ⟨g, 0, none⟩) d.length cap, .string n, .func (.func 44) #[] #[]] w fun e w' =>
      (∃ (i : Nat) (b : Bool), e = .returned (.tuple #[.int .i64 (i : Int), .bool b]) ∧ Found d n i b) ∧ Below w.heap.size w w' := by
  have HH := Lib.hid h; have HS := Lib.hid hs
  clear h hs
  go_enter Tryd.func43, Tryd.ntmps43
  go_wp2
  go_loopw [9, 10] (fun s9 s10 wr => ∃ lo hi : Nat, (lo ≤ hi ∧ hi ≤ d.length) ∧ s9 = .int .i64 lo ∧ s10 = .int .i64 hi ∧ Hid (Below w.heap.size w wr) ∧
    Hid ((∀ t, t < lo → cmpN (d.getD t noP) n < 0) ∧ (∀ t, hi ≤ t → t < d.length → 0 ≤ cmpN (d.getD t noP) n))) (fun s9 s10 _ => (intOf s10).toNat - (intOf s9).toNat)
  case atStart => exact ⟨0, d.length, ⟨Nat.zero_le _, Nat.le_refl _⟩, rfl, rfl, Lib.hid (Below.refl _ _), Lib.hid ⟨fun t ht => absurd ht (Nat.not_lt_zero _), fun t h1 h2 => by omega⟩⟩
  case round =>
    obtain ⟨lo, hi, ⟨hlh, hin⟩, rfl, rfl, hB, hI⟩ := hrel
    by_cases hlt : lo < hi
    · obtain ⟨m, hm⟩ : ∃ m, (lo + hi) / 2 = m := ⟨_, rfl⟩
      have hmz : ((lo : Int) + (hi : Int)) / 2 = (m : Int) := by omega
      have hm1 : m < d.length := by omega
      have hm1z : (m : Int) < (d.length : Int) := by omega
      obtain ⟨x0, x1, x2, x3⟩ := (HH.out.below hB.out).cells hm1
      have HC := Lib.hid (cmpN_any (d.getD m noP) n wr)
      obtain ⟨r, hr⟩ : ∃ r, cmpN (d.getD m noP) n = r := ⟨_, rfl⟩
      have HR := Lib.hid hr
      rw [hr] at HC
      clear hr
      generalize d.getD m noP = x at x0 x1 x2 x3 HC
      simp only [pairV] at HC
      by_cases hyx : r < 0
      · go_wp2_with (go_at_call 44; refine HC.out.mono ?_; rintro e w2 ⟨rfl, hb2⟩; have HB2 := Lib.hid (hB.out.trans (hb2.mono hB.out.size)); clear hb2)
        go_wp2
        go_roundw
        case rel => exact ⟨m + 1, hi, ⟨by omega, hin⟩, by first | go_num | (congr 1; omega), rfl, HB2, Lib.hid ⟨fun t ht => sorted_less HS.out n (show t ≤ m by omega) hm1 (by rw [HR.out]; exact hyx), hI.out.2⟩⟩
        case measure => simp [intOf]; omega
      · go_wp2_with (go_at_call 44; refine HC.out.mono ?_; rintro e w2 ⟨rfl, hb2⟩; have HB2 := Lib.hid (hB.out.trans (hb2.mono hB.out.size)); clear hb2)
        go_wp2
        go_roundw
        case rel => exact ⟨lo, m, ⟨by omega, by omega⟩, rfl, rfl, HB2, Lib.hid ⟨hI.out.1, fun t ht htn => Int.not_lt.1 fun h => by have := sorted_less HS.out n ht htn h; rw [HR.out] at this; omega⟩⟩
        case measure => simp [intOf]; omega
    · obtain rfl : hi = lo := by omega
      by_cases hn : hi < d.length
      · have hnz : (hi : Int) < (d.length : Int) := by omega
        obtain ⟨x0, x1, x2, x3⟩ := (HH.out.below hB.out).cells hn
        have HC := Lib.hid (cmpN_any (d.getD hi noP) n wr)
        obtain ⟨r, hr⟩ : ∃ r, cmpN (d.getD hi noP) n = r := ⟨_, rfl⟩
        have HR := Lib.hid hr
        rw [hr] at HC
        clear hr
        generalize d.getD hi noP = x at x0 x1 x2 x3 HC
        simp only [pairV] at HC
        by_cases hyx : r = 0
        · subst hyx
          go_wp2_with (go_at_call 44; refine HC.out.mono ?_; rintro e w2 ⟨rfl, hb2⟩; have HB2 := Lib.hid (hB.out.trans (hb2.mono hB.out.size)); clear hb2)
          go_wp2
          go_ret2
          exact ⟨⟨hi, true, rfl, found_yes HS.out hn HR.out⟩, HB2.out⟩
        · have hrz : (r == 0) = false := by simpa using hyx
          have HQ := Lib.hid hyx
          clear hyx
          go_wp2_with (go_at_call 44; refine HC.out.mono ?_; rintro e w2 ⟨rfl, hb2⟩; have HB2 := Lib.hid (hB.out.trans (hb2.mono hB.out.size)); clear hb2)
          go_wp2
          go_ret2
          exact ⟨⟨hi, false, rfl, found_no hI.out.1 hI.out.2 (fun _ => by rw [HR.out]; exact HQ.out) HS.out⟩, HB2.out⟩
      · obtain rfl : hi = d.length := by omega
        go_wp2
        go_ret2
        exact ⟨⟨d.length, false, rfl, found_no hI.out.1 hI.out.2 (fun h => absurd h (Nat.lt_irrefl _)) HS.out⟩, hB.out⟩

theorem search_none (a : Option Addr) (c : Nat) (n : ByteArray) (w : World) :
    Calls Tryd.prog 43 #[.slice a 0 c, .string n, .func (.func 44) #[] #[]] w fun e w' =>
      e = .returned (.tuple #[.int .i64 0, .bool false]) ∧ w = w' := by
  go_enter Tryd.func43, Tryd.ntmps43
  go_wp2
  refine wp_loop_rounds 1 ?_
  rw [rounds_succ]
  go_wp2
  go_ret2
  exact ⟨rfl, rfl⟩
end Go.Proofs.YthpphjkoiipkkaaDoor
/- (Subst).find, own, (Subst).Apply: types in variables' places. -/
namespace Go.Proofs.YthpphjkoiipkkaaDoor
open Go.RowKit Go.Sort Go.Lib
attribute [local go_sem] Oper.semAt_some

theorem Tryd.infoTy : (Tryd.prog.info? 29).map (fun i => (i.zero, i.size, i.bytes)) = some (some (.agg #[.int .i64 0, .string ⟨#[]⟩, .slice none 0 0]), 3, 48) := by kernel_rfl
def zeros (n : Nat) : Array Value := madeCells #[.int .i64 0, .string ⟨#[]⟩, .slice none 0 0] (n * 3)
theorem make_row3 (n : Nat) (hn : n ≤ 1000000000) (w : World) :
    (Instr.makeSlice 27 (.int .i64 (n : Int)) (.int .i64 (n : Int))).run Tryd.prog w = .ok (.slice (some ⟨w.heap.size, 0, none⟩) n n) (w.alloc (.cells (zeros n) 29)) := by
  obtain ⟨i, hi, hzz⟩ := Option.map_eq_some_iff.1 Tryd.infoTy
  simp only [Prod.mk.injEq] at hzz
  obtain ⟨hz, hs, hb⟩ := hzz
  have hr := run_make (P := Tryd.prog) w 27 29 i _ Tryd.underlying27 hi hz .i64 .i64 n n (by omega) (Int.le_refl _) (by rw [hb]; omega) (by omega)
  simp only [Int.toNat_natCast, hs] at hr
  exact hr

/-- The row of the copies, the first i of them made. -/
def RowTo (N G : Nat) (l : List T) (i : Nat) (w : World) : Prop :=
  ∃ cs, ∃ z : Nat → Value, w.heap[G]? = some (.cells cs 29 (0, 0)) ∧ cs.size = l.length * 3 ∧
    ∀ j (h : j < l.length), j < i → (cs[j * 3]? = some (.int .i64 l[j].kind) ∧ cs[j * 3 + 1]? = some (.string l[j].name) ∧ cs[j * 3 + 2]? = some (z j)) ∧ TyIn (fun k => (N ≤ k ∧ k ≠ G) ∧ k < w.heap.size) w l[j] (z j)
theorem RowTo.below {N G : Nat} {l : List T} {i : Nat} {w w' : World} (h : RowTo N G l i w) (hb : Below w.heap.size w w') : RowTo N G l i w' := by
  obtain ⟨cs, z, h1, h2, h3⟩ := h
  refine ⟨cs, z, (hb.block G (Array.getElem?_eq_some_iff.1 h1).1).trans h1, h2, fun j hj hi => ⟨(h3 j hj hi).1, ?_⟩⟩
  exact ((h3 j hj hi).2.keep (fun k _ _ hk hh => (hb.block k hk.2).trans hh)).mono (fun k hk => ⟨hk.1, Nat.lt_of_lt_of_le hk.2 hb.size⟩)
/-- Three stores: the next copy is laid into the row. -/
theorem RowTo.next {N G : Nat} {l : List T} {i : Nat} {w : World} (h : RowTo N G l i w) (hi : i < l.length) {v : Value} (hv : TyIn (fun k => (N ≤ k ∧ k ≠ G) ∧ k < w.heap.size) w l[i] v) :
    RowTo N G l (i + 1) (((w.setCell ⟨G, i * 3, none⟩ (.int .i64 l[i].kind)).setCell ⟨G, i * 3 + 1, none⟩ (.string l[i].name)).setCell ⟨G, i * 3 + 2, none⟩ v) := by
  obtain ⟨cs, z, h1, h2, h3⟩ := h
  have hsz : ∀ (W : World) (a : Addr) (x : Value), (W.setCell a x).heap.size = W.heap.size := fun W a x => by simp [World.setCell]
  have hset : ∀ {W : World} {o : Nat} {cs : Array Value} (v : Value), W.heap[G]? = some (.cells cs 29 (0, 0)) → (W.setCell ⟨G, o, none⟩ v).heap[G]? = some (.cells (cs.setIfInBounds o v) 29 (0, 0)) := fun {W o cs} v h => by
    obtain ⟨hlt, hk⟩ := Array.getElem?_eq_some_iff.1 h
    show (W.heap.modify G _)[G]? = _
    rw [Array.getElem?_eq_getElem (by rw [Array.size_modify]; exact hlt), Array.getElem_modify_self, hk]
    rfl
  have hoth : ∀ k, k ≠ G → (((w.setCell ⟨G, i * 3, none⟩ (.int .i64 l[i].kind)).setCell ⟨G, i * 3 + 1, none⟩ (.string l[i].name)).setCell ⟨G, i * 3 + 2, none⟩ v).heap[k]? = w.heap[k]? := fun k hk =>
    (Below.heap_setCell _ ⟨G, i * 3 + 2, none⟩ _ k hk).trans ((Below.heap_setCell _ ⟨G, i * 3 + 1, none⟩ _ k hk).trans (Below.heap_setCell _ ⟨G, i * 3, none⟩ _ k hk))
  refine ⟨((cs.setIfInBounds (i * 3) (.int .i64 l[i].kind)).setIfInBounds (i * 3 + 1) (.string l[i].name)).setIfInBounds (i * 3 + 2) v, fun j => if j = i then v else z j, hset _ (hset _ (hset _ h1)), by simpa using h2, fun j hj hji => ?_⟩
  by_cases e : j = i
  · subst e
    refine ⟨⟨?_, ?_, ?_⟩, ?_⟩
    · simp [Array.getElem?_setIfInBounds, h2]; omega
    · simp [Array.getElem?_setIfInBounds, h2]; omega
    · simp [Array.getElem?_setIfInBounds, h2]; omega
    · simp only [if_true, hsz]
      exact hv.keep (fun k _ _ hk hh => (hoth k hk.1.2).trans hh)
  · obtain ⟨⟨a1, a2, a3⟩, a4⟩ := h3 j hj (by omega)
    refine ⟨⟨?_, ?_, ?_⟩, ?_⟩
    · rw [Array.getElem?_setIfInBounds_ne (by omega), Array.getElem?_setIfInBounds_ne (by omega), Array.getElem?_setIfInBounds_ne (by omega)]; exact a1
    · rw [Array.getElem?_setIfInBounds_ne (by omega), Array.getElem?_setIfInBounds_ne (by omega), Array.getElem?_setIfInBounds_ne (by omega)]; exact a2
    · rw [Array.getElem?_setIfInBounds_ne (by omega), Array.getElem?_setIfInBounds_ne (by omega), Array.getElem?_setIfInBounds_ne (by omega)]; simp only [if_neg e]; exact a3
    · simp only [if_neg e, hsz]
      exact a4.keep (fun k _ _ hk hh => (hoth k hk.1.2).trans hh)
theorem RowTo.start (N : Nat) (l : List T) (w' : World) (G : Nat) (h : w'.heap[G]? = some (.cells (zeros l.length) 29 (0, 0))) : RowTo N G l 0 w' :=
  ⟨_, fun _ => undef, h, by simp [zeros, size_madeCells], fun j _ h => absurd h (by omega)⟩
theorem RowTo.done {G : Nat} {l : List T} {w : World} (h : RowTo G G l l.length w) {t : T} (ht : t.kids = l) (N : Nat) (W : World) (hN : N ≤ G) (hk : ∀ k, G ≤ k → W.heap[k]? = w.heap[k]?) : TyIn (fun k => N ≤ k) W t (.slice (some ⟨G, 0, none⟩) l.length l.length) := by
  subst ht
  obtain ⟨cs, z, h1, h2, h3⟩ := h
  refine .row t G t.kids.length cs (0, 0) z hN ((hk G (Nat.le_refl _)).trans h1) (Nat.le_refl _) (fun i hi => (h3 i hi hi).1) (fun i hi => ?_)
  exact ((h3 i hi hi).2.keep (fun k _ _ ho hh => (hk k ho.1.1).trans hh)).mono (fun k hk => Nat.le_trans hN hk.1.1)
theorem RowTo.cells {N G : Nat} {l : List T} {i : Nat} {w : World} (h : RowTo N G l i w) (hi : i < l.length) : ∃ x y z, w.cell? ⟨G, i * 3, none⟩ = some x ∧ w.cell? ⟨G, i * 3 + 1, none⟩ = some y ∧ w.cell? ⟨G, i * 3 + 2, none⟩ = some z ∧ w.frozen? ⟨G, i * 3, none⟩ = false ∧ w.frozen? ⟨G, i * 3 + 1, none⟩ = false ∧ w.frozen? ⟨G, i * 3 + 2, none⟩ = false := by
  obtain ⟨cs, z, h1, h2, _⟩ := h
  refine ⟨cs[i * 3]'(by omega), cs[i * 3 + 1]'(by omega), cs[i * 3 + 2]'(by omega), ?_, ?_, ?_, Lib.frozen_of_heap h1 _, Lib.frozen_of_heap h1 _, Lib.frozen_of_heap h1 _⟩ <;> (rw [Lib.cell_of_heap h1]; simp; try omega)

theorem set3_block {W : World} {r : Nat} {x0 y0 z0 : Value} {T : TypeId} (h : W.heap[r]? = some (.cells #[x0, y0, z0] T (0, 0))) (x y z : Value) :
    (((W.setCell ⟨r, 0, none⟩ x).setCell ⟨r, 1, none⟩ y).setCell ⟨r, 2, none⟩ z).heap[r]? = some (.cells #[x, y, z] T (0, 0)) := blk_set (blk_set (blk_set h x) y) z
/-- No part of a small type is wider than the type. -/
theorem len_sizes : ∀ l : List T, l.length ≤ tsizes l
  | [] => Nat.le_refl _
  | a :: l => by have := len_sizes l; have := tsize_eq a; simp [tsizes]; omega
theorem size_mem {k : T} : ∀ {l : List T}, k ∈ l → tsize k ≤ tsizes l
  | a :: l, h => by
    rw [tsizes]
    rcases List.mem_cons.1 h with rfl | h
    · omega
    · have := size_mem h; omega
theorem kids_small {t : T} {n : Nat} (h : tsize t ≤ n) : t.kids.length ≤ n ∧ ∀ k ∈ t.kids, tsize k ≤ n := by
  have e := tsize_eq t
  exact ⟨by have := len_sizes t.kids; omega, fun k hk => by have := size_mem hk; omega⟩

mutual
/-- Types in variables' places. -/
noncomputable def app (d : List PR) : T → T
  | .var n => ty n d
  | .con n l => .con n (apps d l)
  | .fn a b => .fn (app d a) (app d b)
  | .all n a => .all n (app d a)
noncomputable def apps (d : List PR) : List T → List T
  | [] => []
  | a :: l => app d a :: apps d l
end
theorem apps_map (d : List PR) : ∀ l, apps d l = l.map (app d)
  | [] => rfl
  | a :: l => by rw [apps, apps_map d l]; rfl
theorem app_parts (d : List PR) (t : T) (h : ∀ n, t ≠ .var n) : (app d t).kind = t.kind ∧ (app d t).name = t.name ∧ (app d t).kids = t.kids.map (app d) := by
  cases t with
  | var n => exact absurd rfl (h n)
  | con n l => rw [app, apps_map]; exact ⟨rfl, rfl, rfl⟩
  | fn a b => rw [app]; exact ⟨rfl, rfl, rfl⟩
  | all n a => rw [app]; exact ⟨rfl, rfl, rfl⟩
mutual
theorem app_nil : ∀ t, app [] t = t
  | .var n => rfl
  | .con n l => by rw [app, apps_nil l]
  | .fn a b => by rw [app, app_nil a, app_nil b]
  | .all n a => by rw [app, app_nil a]
theorem apps_nil : ∀ l, apps [] l = l
  | [] => rfl
  | a :: l => by rw [apps, app_nil a, apps_nil l]
end

def fv' : Option PR → Value
  | none => .agg #[.int .i64 0, .string ⟨#[]⟩, .slice none 0 0]
  | some x => .agg #[.int .i64 x.t.kind, .string x.t.name, .slice x.a x.t.kids.length x.c]

set_option maxRecDepth 100000 in
set_option maxHeartbeats 2000000 in
theorem find_any (v : Value) (d : List PR) (n : ByteArray) (w : World) (h : SubAt v d w) (hl : d.length < 1152921504606846976) :
    Calls Tryd.prog 31 #[.agg #[v], .string n] w fun e w' => e = .returned (.tuple #[fv' (lk n d), .bool (lk n d).isSome]) ∧ Below w.heap.size w w' := by
  obtain ⟨⟨h1, h2⟩, h3⟩ := h
  have hb2 : ∀ o1 o2 : Obj, Below w.heap.size w ((w.alloc o1).alloc o2) := fun o1 o2 => ((Below.refl _ w).alloc (Nat.le_refl _) _).alloc (by simp) _
  have HB2 := Lib.hid hb2
  clear hb2
  rcases h1 with ⟨rfl, a, c, rfl, _⟩ | ⟨g, cap, rfl, hc, hr⟩
  · have e1 : lk n [] = none := rfl
    rw [e1]
    go_enter Tryd.func31, Tryd.ntmps31
    go_wp2_with (go_at_call 43; refine (search_none _ _ _ _).mono ?_; rintro e w2 ⟨rfl, rfl⟩)
    refine bodyPost_ret (v := .tuple #[.agg #[.int .i64 0, .string ⟨#[]⟩, .slice none 0 0], .bool false]) (by simp [results, Tryd.results31, go_sem]) rfl ⟨rfl, HB2.out _ _⟩
  · have HS := Lib.hid (fun o1 o2 => search_some g cap d n ((w.alloc o1).alloc o2) (hr.below (HB2.out o1 o2)) h2.1 hl)
    have HR := Lib.hid hr
    have hg := hr.lt
    clear h2 h3 hr
    obtain ⟨res, hres⟩ : ∃ r, lk n d = r := ⟨_, rfl⟩
    have HRes := Lib.hid hres
    rw [hres]
    clear hres
    go_enter Tryd.func31, Tryd.ntmps31
    go_wp2_with fail
    have hz : ∀ o1 : Obj, ((w.alloc o1).alloc (.cells #[.int .i64 0, .string ⟨#[]⟩, .slice none 0 0] 29)).heap[w.heap.size + 1]? = some (.cells #[.int .i64 0, .string ⟨#[]⟩, .slice none 0 0] 29 (0, 0)) := fun o1 => by
      have := alloc_new (w.alloc o1) (.cells #[.int .i64 0, .string ⟨#[]⟩, .slice none 0 0] 29)
      simpa using this
    have hy : ∀ o2 : Obj, ((w.alloc (.cells #[.slice (some ⟨g, 0, none⟩) d.length cap] 33)).alloc o2).heap[w.heap.size]? = some (.cells #[.slice (some ⟨g, 0, none⟩) d.length cap] 33 (0, 0)) := fun o2 => by
      rw [Below.heap_alloc _ _ _ (by simp)]; exact alloc_new w _
    have HZ := Lib.hid hz; have HY := Lib.hid hy
    clear hz hy
    go_wp2_with (go_at_call 43; refine (HS.out _ _).mono ?_)
    rintro e w2 ⟨⟨i, b, rfl, hfd⟩, hb2⟩
    have hz2 := (hb2.block (w.heap.size + 1) (by simp)).trans (HZ.out _)
    have hy2 := (hb2.block w.heap.size (by simp; omega)).trans (HY.out _)
    obtain ⟨z0, z1, z2⟩ := three_cells hz2
    have u0 := Lib.frozen_of_heap hz2 0
    have u1 := Lib.frozen_of_heap hz2 1
    have u2 := Lib.frozen_of_heap hz2 2
    have y0 : w2.cell? ⟨w.heap.size, 0, none⟩ = some (.slice (some ⟨g, 0, none⟩) d.length cap) := by rw [Lib.cell_of_heap hy2]; rfl
    have HZ2 := Lib.hid hz2
    have HB3 := Lib.hid ((HB2.out _ _).trans (hb2.mono (by simp; omega)))
    clear hb2 hz2 hy2 HZ HY HS
    rcases hfd with ⟨rfl, hi, hk⟩ | ⟨rfl, hk⟩
    · have hres : res = some (d.getD i noP) := by rw [← HRes.out]; exact hk
      subst hres
      obtain ⟨x0, x1, x2, x3⟩ := (HR.out.below HB3.out).cells hi
      clear HRes hk HR
      obtain ⟨x, hx⟩ : ∃ x, d.getD i noP = x := ⟨_, rfl⟩
      have HX := Lib.hid hx
      rw [hx] at x0 x1 x2 x3
      clear hx
      have hiz : (i : Int) < (d.length : Int) := by omega
      go_wp2
      have hs := set3_block HZ2.out (.int .i64 x.t.kind) (.string x.t.name) (.slice x.a x.t.kids.length x.c)
      have hc := three_cells hs
      refine bodyPost_ret (v := .tuple #[.agg #[.int .i64 x.t.kind, .string x.t.name, .slice x.a x.t.kids.length x.c], .bool true]) (by simp [results, Tryd.results31, go_sem, hc.1, hc.2.1, hc.2.2]) rfl ⟨by rw [HX.out]; rfl, ?_⟩
      exact ((HB3.out.setCell (p := ⟨w.heap.size + 1, 0, none⟩) (Nat.le_succ _) _).setCell (p := ⟨w.heap.size + 1, 1, none⟩) (Nat.le_succ _) _).setCell (p := ⟨w.heap.size + 1, 2, none⟩) (Nat.le_succ _) _
    · have hres : res = none := by rw [← HRes.out]; exact hk
      subst hres
      clear HRes hk HR
      go_wp2
      have hs := set3_block HZ2.out (.int .i64 0) (.string ⟨#[]⟩) (.slice none 0 0)
      have hc := three_cells hs
      refine bodyPost_ret (v := .tuple #[.agg #[.int .i64 0, .string ⟨#[]⟩, .slice none 0 0], .bool false]) (by simp [results, Tryd.results31, go_sem, hc.1, hc.2.1, hc.2.2]) rfl ⟨rfl, ?_⟩
      exact ((HB3.out.setCell (p := ⟨w.heap.size + 1, 0, none⟩) (Nat.le_succ _) _).setCell (p := ⟨w.heap.size + 1, 1, none⟩) (Nat.le_succ _) _).setCell (p := ⟨w.heap.size + 1, 2, none⟩) (Nat.le_succ _) _
end Go.Proofs.YthpphjkoiipkkaaDoor
/- found: the row of the types that are made, in memory. -/
namespace Go.Proofs.YthpphjkoiipkkaaDoor
open Go.RowKit Go.Maps Go.Sort Go.Lib
attribute [local go_sem] Oper.semAt_some

/-- Block M holds n types; those that are done are told, and their rows lie behind M and ahead of D. -/
def MadeAt (M D n : Nat) (tt : Nat → T) (dn : Nat → Prop) (w : World) : Prop :=
  ∃ cs, ∃ z : Nat → Value, w.heap[M]? = some (.cells cs 29 (0, 0)) ∧ cs.size = n * 3 ∧
    ∀ j, j < n → dn j → (cs[j * 3]? = some (.int .i64 (tt j).kind) ∧ cs[j * 3 + 1]? = some (.string (tt j).name) ∧ cs[j * 3 + 2]? = some (z j)) ∧ TyIn (fun k => M < k ∧ k < D) w (tt j) (z j)
theorem MadeAt.lt {M D n : Nat} {tt : Nat → T} {dn : Nat → Prop} {w : World} (h : MadeAt M D n tt dn w) : M < w.heap.size := by
  obtain ⟨cs, z, h1, _⟩ := h; exact (Array.getElem?_eq_some_iff.1 h1).1
theorem MadeAt.start (M D n : Nat) (tt : Nat → T) (w : World) (h : w.heap[M]? = some (.cells (zeros n) 29 (0, 0))) : MadeAt M D n tt (fun _ => False) w :=
  ⟨_, fun _ => undef, h, by simp [zeros, size_madeCells], fun j _ h => h.elim⟩
/-- What keeps the types' blocks from M on to D keeps all. -/
theorem MadeAt.keep {M D D' n : Nat} {tt : Nat → T} {dn : Nat → Prop} {w w' : World} (h : MadeAt M D n tt dn w) (hk : ∀ (k : Nat) (cs : Array Value) (fz : Nat × Nat), M ≤ k → k < D ∨ k = M → w.heap[k]? = some (.cells cs 29 fz) → w'.heap[k]? = some (.cells cs 29 fz)) (hD : D ≤ D') : MadeAt M D' n tt dn w' := by
  obtain ⟨cs, z, h1, h2, h3⟩ := h
  refine ⟨cs, z, hk _ _ _ (Nat.le_refl _) (.inr rfl) h1, h2, fun j hj hd => ⟨(h3 j hj hd).1, ?_⟩⟩
  exact ((h3 j hj hd).2.keep (fun k _ _ ho hh => hk _ _ _ (Nat.le_of_lt ho.1) (.inl ho.2) hh)).mono fun k ho => ⟨ho.1, Nat.lt_of_lt_of_le ho.2 hD⟩
theorem MadeAt.fr {M D n p : Nat} {tt : Nat → T} {dn : Nat → Prop} {w w' : World} (h : MadeAt M D n tt dn w) (hf : Fr p w w') (hp : p < M) : MadeAt M D n tt dn w' :=
  h.keep (fun k _ _ hk _ hh => (hf.2 k (Array.getElem?_eq_some_iff.1 hh).1 (by omega)).trans hh) (Nat.le_refl _)
theorem MadeAt.below {M D n : Nat} {tt : Nat → T} {dn : Nat → Prop} {w w' : World} (h : MadeAt M D n tt dn w) (hb : Below w.heap.size w w') : MadeAt M D n tt dn w' :=
  h.keep (fun k _ _ _ _ hh => (hb.block k (Array.getElem?_eq_some_iff.1 hh).1).trans hh) (Nat.le_refl _)
theorem MadeAt.cells {M D n : Nat} {tt : Nat → T} {dn : Nat → Prop} {w : World} (h : MadeAt M D n tt dn w) {i : Nat} (hi : i < n) : ∃ x y z, w.cell? ⟨M, i * 3, none⟩ = some x ∧ w.cell? ⟨M, i * 3 + 1, none⟩ = some y ∧ w.cell? ⟨M, i * 3 + 2, none⟩ = some z ∧ w.frozen? ⟨M, i * 3, none⟩ = false ∧ w.frozen? ⟨M, i * 3 + 1, none⟩ = false ∧ w.frozen? ⟨M, i * 3 + 2, none⟩ = false := by
  obtain ⟨cs, z, h1, h2, _⟩ := h
  refine ⟨cs[i * 3]'(by omega), cs[i * 3 + 1]'(by omega), cs[i * 3 + 2]'(by omega), ?_, ?_, ?_, Lib.frozen_of_heap h1 _, Lib.frozen_of_heap h1 _, Lib.frozen_of_heap h1 _⟩ <;> (rw [Lib.cell_of_heap h1]; simp; try omega)
theorem MadeAt.get {M D n : Nat} {tt : Nat → T} {dn : Nat → Prop} {w : World} (h : MadeAt M D n tt dn w) {i : Nat} (hi : i < n) (hd : dn i) : ∃ a c, w.cell? ⟨M, i * 3, none⟩ = some (.int .i64 (tt i).kind) ∧ w.cell? ⟨M, i * 3 + 1, none⟩ = some (.string (tt i).name) ∧ w.cell? ⟨M, i * 3 + 2, none⟩ = some (.slice a (tt i).kids.length c) ∧ TyIn (fun k => M < k ∧ k < D) w (tt i) (.slice a (tt i).kids.length c) := by
  obtain ⟨cs, z, h1, _, h3⟩ := h
  obtain ⟨⟨a1, a2, a3⟩, a4⟩ := h3 i hi hd
  obtain ⟨a, c, e⟩ := a4.shape
  rw [e] at a3 a4
  rw [Lib.cell_of_heap h1, Lib.cell_of_heap h1, Lib.cell_of_heap h1]
  exact ⟨a, c, a1, a2, a3, a4⟩
/-- Three stores: one more is done. -/
theorem MadeAt.set {M D n : Nat} {tt : Nat → T} {dn dn' : Nat → Prop} {w : World} (h : MadeAt M D n tt dn w) {i : Nat} (hi : i < n) {v : Value} (hv : TyIn (fun k => M < k ∧ k < D) w (tt i) v) (hdn : ∀ j, dn' j → dn j ∨ j = i) :
    MadeAt M D n tt dn' (((w.setCell ⟨M, i * 3, none⟩ (.int .i64 (tt i).kind)).setCell ⟨M, i * 3 + 1, none⟩ (.string (tt i).name)).setCell ⟨M, i * 3 + 2, none⟩ v) := by
  obtain ⟨cs, z, h1, h2, h3⟩ := h
  have hoth : ∀ k, k ≠ M → (((w.setCell ⟨M, i * 3, none⟩ (.int .i64 (tt i).kind)).setCell ⟨M, i * 3 + 1, none⟩ (.string (tt i).name)).setCell ⟨M, i * 3 + 2, none⟩ v).heap[k]? = w.heap[k]? := fun k hk =>
    (Below.heap_setCell _ ⟨M, i * 3 + 2, none⟩ _ k hk).trans ((Below.heap_setCell _ ⟨M, i * 3 + 1, none⟩ _ k hk).trans (Below.heap_setCell _ ⟨M, i * 3, none⟩ _ k hk))
  refine ⟨((cs.setIfInBounds (i * 3) (.int .i64 (tt i).kind)).setIfInBounds (i * 3 + 1) (.string (tt i).name)).setIfInBounds (i * 3 + 2) v, fun j => if j = i then v else z j, blk_set (blk_set (blk_set h1 _) _) _, by simpa using h2, fun j hj hd => ?_⟩
  by_cases e : j = i
  · subst e
    refine ⟨⟨?_, ?_, ?_⟩, ?_⟩
    · simp [Array.getElem?_setIfInBounds, h2]; omega
    · simp [Array.getElem?_setIfInBounds, h2]; omega
    · simp [Array.getElem?_setIfInBounds, h2]; omega
    · simp only [if_true]
      exact hv.keep (fun k _ _ hk hh => (hoth k (by omega)).trans hh)
  · obtain ⟨⟨a1, a2, a3⟩, a4⟩ := h3 j hj ((hdn j hd).resolve_right e)
    refine ⟨⟨?_, ?_, ?_⟩, ?_⟩
    · rw [Array.getElem?_setIfInBounds_ne (by omega), Array.getElem?_setIfInBounds_ne (by omega), Array.getElem?_setIfInBounds_ne (by omega)]; exact a1
    · rw [Array.getElem?_setIfInBounds_ne (by omega), Array.getElem?_setIfInBounds_ne (by omega), Array.getElem?_setIfInBounds_ne (by omega)]; exact a2
    · rw [Array.getElem?_setIfInBounds_ne (by omega), Array.getElem?_setIfInBounds_ne (by omega), Array.getElem?_setIfInBounds_ne (by omega)]; simp only [if_neg e]; exact a3
    · simp only [if_neg e]
      exact a4.keep (fun k _ _ hk hh => (hoth k (by omega)).trans hh)
/-- Three stores into another row. -/
theorem MadeAt.other {M D n b : Nat} {tt : Nat → T} {dn : Nat → Prop} {w : World} (h : MadeAt M D n tt dn w) (hD : D ≤ b) (hM : M < b) (o1 o2 o3 : Nat) (x y z : Value) : MadeAt M D n tt dn (((w.setCell ⟨b, o1, none⟩ x).setCell ⟨b, o2, none⟩ y).setCell ⟨b, o3, none⟩ z) :=
  h.keep (fun k _ _ _ h1 hh => ((Below.heap_setCell _ ⟨b, o3, none⟩ _ k (by show k ≠ b; omega)).trans ((Below.heap_setCell _ ⟨b, o2, none⟩ _ k (by show k ≠ b; omega)).trans (Below.heap_setCell _ ⟨b, o1, none⟩ _ k (by show k ≠ b; omega)))).trans hh) (Nat.le_refl _)
/-- The row of one type's parts, behind M. -/
theorem RowTo.fr {N G p : Nat} {l : List T} {i : Nat} {w w' : World} (h : RowTo N G l i w) (hf : Fr p w w') (hp : p < N) (hpG : p < G) : RowTo N G l i w' := by
  obtain ⟨cs, z, h1, h2, h3⟩ := h
  refine ⟨cs, z, (hf.2 G (Array.getElem?_eq_some_iff.1 h1).1 (by omega)).trans h1, h2, fun j hj hi => ⟨(h3 j hj hi).1, ?_⟩⟩
  exact ((h3 j hj hi).2.keep (fun k _ _ hk hh => (hf.2 k hk.2 (by omega)).trans hh)).mono (fun k hk => ⟨hk.1, Nat.lt_of_lt_of_le hk.2 hf.1.size⟩)
theorem RowTo.fin {M R : Nat} {l : List T} {w : World} (h : RowTo (M + 1) R l l.length w) (hR : M < R) {t : T} (ht : t.kids = l) : TyIn (fun k => M < k ∧ k < w.heap.size) w t (.slice (some ⟨R, 0, none⟩) l.length l.length) := by
  subst ht
  obtain ⟨cs, z, h1, h2, h3⟩ := h
  refine .row t R t.kids.length cs (0, 0) z ⟨hR, (Array.getElem?_eq_some_iff.1 h1).1⟩ h1 (Nat.le_refl _) (fun i hi => (h3 i hi hi).1) (fun i hi => ?_)
  exact (h3 i hi hi).2.mono (fun k hk => ⟨by omega, hk.2⟩)
/-- What is behind the places that are done. -/
def dnOf (ls : List Nat) (m : Nat) (i : Nat) : Prop := ∃ q, m ≤ q ∧ q < ls.length ∧ ls.getD q 0 = i
theorem dnOf_step {ls : List Nat} {m : Nat} (j : Nat) (h : dnOf ls m j) : dnOf ls (m + 1) j ∨ j = ls.getD m 0 := by
  obtain ⟨q, h1, h2, h3⟩ := h
  by_cases e : q = m
  · subst e; exact .inr h3.symm
  · exact .inl ⟨q, by omega, h2, h3⟩
theorem pre_len {pre : List Nat} {m n : Nat} (h : pre ++ (List.range m).reverse = (List.range n).reverse) : pre.length + m = n := by
  have := congrArg List.length h
  simpa using this
/-- What the type at place i is made of. -/
theorem sub_place {G : Gr} {rt : Nat → Nat} {σ : Sg} (g : GI G rt) (h : SI G σ rt) {i : Nat} (hi : i < G.N) (hr : rt i = i) :
    (sub σ (G.tr i)).kind = (G.tr i).kind ∧ (sub σ (G.tr i)).name = (G.tr i).name ∧ (sub σ (G.tr i)).kids = (G.ag i).map fun x => sub σ (G.tr (rt x)) := by
  cases hv : (G.tr i).isV with
  | true =>
    have e := h.free i hi hr hv
    have e2 := g.ok.var_no hi hv
    refine ⟨by rw [e], by rw [e], ?_⟩
    rw [e, g.ok.kids i hi, e2]; rfl
  | false =>
    obtain ⟨h1, h2, h3, _⟩ := sub_parts σ (G.tr i) hv
    refine ⟨h1, h2, ?_⟩
    rw [h3, g.ok.kids i hi, List.map_map]
    refine List.map_congr_left fun x hx => ?_
    exact h.root g (g.ok.arg hi hx)
end Go.Proofs.YthpphjkoiipkkaaDoor
/- types.Vars: the free variables of a row of types. -/
namespace Go.Proofs.YthpphjkoiipkkaaDoor
open Go.RowKit Go.Maps
attribute [local go_sem] Oper.semAt_some

theorem Nm.name {t : T} (h : Nm t) : t.name.size ≤ 1000 := by cases h; assumption
theorem Nm.kid {t k : T} (h : Nm t) (hk : k ∈ t.kids) : Nm k := by cases h with | mk _ _ h => exact h k hk

/-- v is a slice of the texts l. -/
def TextsAt (w : World) (v : Value) (l : List ByteArray) : Prop :=
  ∃ a cap, v = .slice a l.length cap ∧ (l = [] ∨ ∃ g, a = some ⟨g, 0, none⟩ ∧ l.length ≤ cap ∧ ∃ cs fz, w.heap[g]? = some (.cells cs 9 fz) ∧ ∀ i (h : i < l.length), cs[i]? = some (.string l[i]))
theorem TextsAt.keep {w w' : World} {v : Value} {l : List ByteArray} (h : TextsAt w v l) (hk : ∀ (k : Nat) (cs : Array Value) (fz : Nat × Nat), w.heap[k]? = some (.cells cs 9 fz) → w'.heap[k]? = some (.cells cs 9 fz)) : TextsAt w' v l := by
  obtain ⟨a, cap, rfl, h⟩ := h
  refine ⟨a, cap, rfl, ?_⟩
  rcases h with h | ⟨g, e, hc, cs, fz, hg, hi⟩
  · exact .inl h
  · exact .inr ⟨g, e, hc, cs, fz, hk _ _ _ hg, hi⟩
theorem TextsAt.of_row {W : World} {base : Nat} {v : Value} {l : List ByteArray} (h : W.ownsRow base 9 1 v l.length (l.map Value.string)) : TextsAt W v l := by
  rcases h.2 with ⟨rfl, h0⟩ | ⟨g, cap, cur, rfl, _, hg, hc, hm, hcs, htk⟩
  · have : l = [] := List.length_eq_zero_iff.1 h0
    subst this
    exact ⟨none, 0, rfl, .inl rfl⟩
  · refine ⟨_, cap, rfl, .inr ⟨g, rfl, hc, cur, _, hg, fun i hi => ?_⟩⟩
    have e : (cur.toList.take (l.length * 1))[i]? = (l.map Value.string)[i]? := by rw [htk]
    rw [List.getElem?_take, if_pos (by omega), Array.getElem?_toList] at e
    simpa [hi] using e
end Go.Proofs.YthpphjkoiipkkaaDoor
/- types.Size, types.Has; the document's Size. -/
namespace Go.Proofs.YthpphjkoiipkkaaDoor
open Go.RowKit
attribute [local go_sem] Oper.semAt_some

theorem T.by_kids {P : T → Prop} (H : ∀ t : T, (∀ k ∈ t.kids, P k) → P t) (t : T) : P t := H t fun k _ => T.by_kids H k
termination_by SizeOf.sizeOf t
decreasing_by exact T.kid_size ‹_›
theorem kind_var {t : T} (h : t.kind = 1) : t.kids = [] := by cases t <;> simp_all [T.kind, T.kids]
theorem take_sizes (l : List T) (i : Nat) (h : i < l.length) : tsizes (l.take (i + 1)) = tsizes (l.take i) + tsize l[i] := (tsizes_take l i h).1
def SizeOK (f : Nat) (t : T) : Prop := ∀ (a : Option Addr) (c : Nat) (w : World), TysAt w (.slice a t.kids.length c) t.kids → tsize t ≤ 1000000000 →
    Calls Tryd.prog f #[tyV t (.slice a t.kids.length c)] w fun e w' => e = .returned (.int .i64 (tsize t : Nat)) ∧ Below w.heap.size w w'

end Go.Proofs.YthpphjkoiipkkaaDoor
/- own, (Subst).Apply. -/
namespace Go.Proofs.YthpphjkoiipkkaaDoor
open Go.RowKit Go.Sort Go.Lib
attribute [local go_sem] Oper.semAt_some

/-- A type in memory of its own. -/
def ResT (N : Nat) (t : T) (e : Ending) (w' : World) : Prop := ∃ a c, e = .returned (tyV t (.slice a t.kids.length c)) ∧ TyIn (fun k => N ≤ k) w' t (.slice a t.kids.length c)
def OwnS (t : T) : Prop := ∀ (a : Option Addr) (c : Nat) (w : World), TysAt w (.slice a t.kids.length c) t.kids →
    Calls Tryd.prog 32 #[tyV t (.slice a t.kids.length c)] w fun e w' => ResT w.heap.size t e w' ∧ Below w.heap.size w w'
def AppOK (d : List PR) (t : T) : Prop := ∀ (v : Value) (a : Option Addr) (c : Nat) (w : World), SubAt v d w → TysAt w (.slice a t.kids.length c) t.kids →
    Calls Tryd.prog 14 #[.agg #[v], tyV t (.slice a t.kids.length c)] w fun e w' => ResT w.heap.size (app d t) e w' ∧ Below w.heap.size w w'
theorem sub_nil (w : World) (a : Option Addr) (c : Nat) (h : a = none → c = 0) : SubAt (.slice a 0 c) [] w := ⟨⟨.inl ⟨rfl, a, c, rfl, h⟩, gath_nil.neat⟩, fun x hx => by cases hx⟩
theorem below_two (w : World) (o1 o2 : Obj) : Below w.heap.size w ((w.alloc o1).alloc o2) := ((Below.refl _ w).alloc (Nat.le_refl _) _).alloc (by simp) _
theorem set3_others {W : World} {r k : Nat} (x y z : Value) (hk : k ≠ r) : (((W.setCell ⟨r, 0, none⟩ x).setCell ⟨r, 1, none⟩ y).setCell ⟨r, 2, none⟩ z).heap[k]? = W.heap[k]? :=
  (Below.heap_setCell _ ⟨r, 2, none⟩ _ k hk).trans ((Below.heap_setCell _ ⟨r, 1, none⟩ _ k hk).trans (Below.heap_setCell _ ⟨r, 0, none⟩ _ k hk))
theorem below_set3 {N : Nat} {w W : World} (h : Below N w W) {r : Nat} (hr : N ≤ r) (x y z : Value) : Below N w (((W.setCell ⟨r, 0, none⟩ x).setCell ⟨r, 1, none⟩ y).setCell ⟨r, 2, none⟩ z) :=
  ((h.setCell (p := ⟨r, 0, none⟩) hr x).setCell (p := ⟨r, 1, none⟩) hr y).setCell (p := ⟨r, 2, none⟩) hr z

theorem new_two (w : World) (o1 o2 : Obj) : ((w.alloc o1).alloc o2).heap[w.heap.size + 1]? = some o2 := by
  have := alloc_new (w.alloc o1) o2
  simpa using this

set_option maxRecDepth 100000 in
set_option maxHeartbeats 1000000 in
theorem own_of (t : T) (H : AppOK [] t) : OwnS t := by
  intro a c w h
  have HC := Lib.hid (fun o1 o2 => H (.slice none 0 0) a c ((w.alloc o1).alloc o2) (sub_nil _ _ _ (fun _ => rfl)) (h.keep ((keepT_alloc w o1).trans (keepT_alloc _ o2))))
  rw [app_nil] at HC
  clear H h
  simp only [tyV] at HC ⊢
  go_enter Tryd.func32, Tryd.ntmps32
  go_wp2_with (go_at_call 14; refine (HC.out _ _).mono ?_)
  rintro e w2 ⟨⟨a2, c2, rfl, hin⟩, hb⟩
  have hz2 := (hb.block (w.heap.size + 1) (by simp)).trans (new_two w _ _)
  obtain ⟨z0, z1, z2⟩ := three_cells hz2
  have u0 := Lib.frozen_of_heap hz2 0
  have u1 := Lib.frozen_of_heap hz2 1
  have u2 := Lib.frozen_of_heap hz2 2
  have HZ := Lib.hid hz2
  have HI := Lib.hid hin
  have HB := Lib.hid ((below_two w _ _).trans (hb.mono (by simp; omega)))
  clear hz2 hin hb HC
  simp only [tyV]
  go_wp2
  have hc := three_cells (set3_block HZ.out (.int .i64 t.kind) (.string t.name) (.slice a2 t.kids.length c2))
  refine bodyPost_ret (v := .agg #[.int .i64 t.kind, .string t.name, .slice a2 t.kids.length c2]) (by simp [results, Tryd.results32, go_sem, hc.1, hc.2.1, hc.2.2]) rfl ⟨⟨a2, c2, rfl, ?_⟩, below_set3 HB.out (Nat.le_succ _) _ _ _⟩
  refine (HI.out.keep fun k _ _ hk hh => (set3_others _ _ _ ?_).trans hh).mono fun k hk => ?_
  · have : w.heap.size + 1 + 1 ≤ k := by simpa using hk
    omega
  · have : w.heap.size + 1 + 1 ≤ k := by simpa using hk
    omega

theorem new_three (w : World) (o1 o2 o3 : Obj) : (((w.alloc o1).alloc o2).alloc o3).heap[w.heap.size]? = some o1 ∧ (((w.alloc o1).alloc o2).alloc o3).heap[w.heap.size + 1]? = some o2 ∧ (((w.alloc o1).alloc o2).alloc o3).heap[w.heap.size + 1 + 1]? = some o3 := by
  refine ⟨?_, ?_, ?_⟩
  · rw [Below.heap_alloc _ _ _ (by simp; omega), Below.heap_alloc _ _ _ (by simp)]; exact alloc_new w _
  · rw [Below.heap_alloc _ _ _ (by simp)]
    have := alloc_new (w.alloc o1) o2
    simpa using this
  · have := alloc_new ((w.alloc o1).alloc o2) o3
    simpa using this
theorem below_three (w : World) (o1 o2 o3 : Obj) : Below w.heap.size w (((w.alloc o1).alloc o2).alloc o3) := (((Below.refl _ w).alloc (Nat.le_refl _) _).alloc (by simp) _).alloc (by simp; omega) _

set_option maxRecDepth 100000 in
set_option maxHeartbeats 1000000 in
theorem app_leaf (d : List PR) (t : T) (h0 : t.kids = []) (hv : ∀ n, t ≠ .var n) (hk : (t.kind == 1) = false) : AppOK d t := by
  intro v a c w _ _
  obtain ⟨e1, e2, e3⟩ := app_parts d t hv
  have hl : t.kids.length = 0 := by rw [h0]; rfl
  have hl2 : (app d t).kids = [] := by rw [e3, h0]; rfl
  have HB := Lib.hid (below_three w)
  unfold ResT
  rw [hl, show (app d t).kids.length = 0 by rw [hl2]; rfl]
  simp only [tyV, e1, e2]
  clear e1 e2 e3 hl
  go_enter Tryd.func14, Tryd.ntmps14
  go_wp2
  refine bodyPost_ret (v := .agg #[.int .i64 t.kind, .string t.name, .slice none 0 0]) (by simp [results, Tryd.results14, go_sem]) rfl ⟨⟨none, 0, rfl, .leaf _ none 0 hl2⟩, HB.out _ _ _⟩

theorem app_var (d : List PR) (n : ByteArray) (hl : d.length < 1152921504606846976) (H : ∀ x, lk n d = some x → OwnS x.t) : AppOK d (.var n) := by
  intro v a c w hs _
  have HB := Lib.hid (below_three w)
  have HF := Lib.hid (fun o1 o2 o3 => find_any v d n (((w.alloc o1).alloc o2).alloc o3) (hs.below (HB.out o1 o2 o3)) hl)
  have HN := Lib.hid (new_three w)
  show Calls _ _ #[_, tyV (.var n) (.slice a 0 c)] _ _
  cases hk : lk n d with
  | none =>
    rw [hk] at HF
    have ha : app d (.var n) = .var n := by rw [app, ty, hk]; rfl
    rw [ha]
    unfold ResT
    simp only [show (T.var n).kids.length = 0 from rfl, tyV, show (T.var n).kind = 1 from rfl, show (T.var n).name = n from rfl, fv', Option.isSome] at HF ⊢
    clear ha hk H hs
    go_enter Tryd.func14, Tryd.ntmps14
    go_wp2_with fail
    go_wp2_with (go_at_call 31; refine (HF.out _ _ _).mono ?_)
    rintro e w2 ⟨rfl, hb⟩
    obtain ⟨_, n1, n2⟩ := HN.out (.cells #[v] 33) (.cells #[.int .i64 1, .string n, .slice a 0 c] 29) (.cells #[.int .i64 0, .string ⟨#[]⟩, .slice none 0 0] 29)
    have m1 := (hb.block (w.heap.size + 1) (by simp)).trans n1
    have m2 := (hb.block (w.heap.size + 1 + 1) (by simp)).trans n2
    have HB2 := Lib.hid ((HB.out _ _ _).trans (hb.mono (by simp; omega)))
    obtain ⟨y0, y1, y2⟩ := three_cells m1
    obtain ⟨z0, z1, z2⟩ := three_cells m2
    have v2 := Lib.frozen_of_heap m1 2
    have u0 := Lib.frozen_of_heap m2 0
    have u1 := Lib.frozen_of_heap m2 1
    have u2 := Lib.frozen_of_heap m2 2
    have l1 := (Array.getElem?_eq_some_iff.1 m1).1
    have l2 := (Array.getElem?_eq_some_iff.1 m2).1
    have M2 := Lib.hid m2
    clear hb n1 n2 m1 m2 HF HN
    go_wp2
    have hfin : ∀ o : Obj, (((((w2.setCell ⟨w.heap.size + 1, 2, none⟩ (.slice none 0 0)).setCell ⟨w.heap.size + 1 + 1, 0, none⟩ (.int .i64 1)).setCell ⟨w.heap.size + 1 + 1, 1, none⟩ (.string n)).setCell ⟨w.heap.size + 1 + 1, 2, none⟩ (.slice none 0 0)).alloc o).heap[w.heap.size + 1 + 1]? = some (.cells #[.int .i64 1, .string n, .slice none 0 0] 29 (0, 0)) := fun o => by
      rw [Below.heap_alloc _ _ _ (by simp; omega)]
      exact set3_block ((Below.heap_setCell _ ⟨w.heap.size + 1, 2, none⟩ _ _ (by show w.heap.size + 1 + 1 ≠ w.heap.size + 1; omega)).trans M2.out) _ _ _
    have hc := three_cells (hfin (.cells #[.int .i64 0, .string ⟨#[]⟩, .slice none 0 0] 29))
    refine bodyPost_ret (v := .agg #[.int .i64 1, .string n, .slice none 0 0]) (by simp [results, Tryd.results14, go_sem, hc.1, hc.2.1, hc.2.2]) rfl ⟨⟨none, 0, rfl, .leaf _ none 0 rfl⟩, ?_⟩
    exact (below_set3 (HB2.out.setCell (p := ⟨w.heap.size + 1, 2, none⟩) (by show w.heap.size ≤ w.heap.size + 1; omega) _) (by omega) _ _ _).alloc (by simp; omega) _
  | some x =>
    rw [hk] at HF
    have hx := H x hk
    have hxt := hs.2 x (lk_name hk).1
    have ha : app d (.var n) = x.t := by rw [app, ty, hk]; rfl
    rw [ha]
    have HO := Lib.hid (fun (W : World) (k : KeepT w W) => hx x.a x.c W (hxt.keep k))
    simp only [tyV, show (T.var n).kind = 1 from rfl, show (T.var n).name = n from rfl, fv', Option.isSome] at HF HO ⊢
    clear ha hk H hs hx hxt
    go_enter Tryd.func14, Tryd.ntmps14
    go_wp2_with (go_at_call 31; refine (HF.out _ _ _).mono ?_)
    rintro e w2 ⟨rfl, hb⟩
    obtain ⟨_, _, n2⟩ := HN.out (.cells #[v] 33) (.cells #[.int .i64 1, .string n, .slice a 0 c] 29) (.cells #[.int .i64 0, .string ⟨#[]⟩, .slice none 0 0] 29)
    have m2 := (hb.block (w.heap.size + 1 + 1) (by simp)).trans n2
    have HB2 := Lib.hid ((HB.out _ _ _).trans (hb.mono (by simp; omega)))
    have l2 := (Array.getElem?_eq_some_iff.1 m2).1
    have M2 := Lib.hid m2
    clear hb n2 m2 HF HN
    go_wp2_with (go_at_call 32; refine (HO.out _ ?kk).mono ?_; (case kk => exact (KeepT.of_below HB2.out).trans (keepT_alloc _ _)))
    rintro e w3 ⟨⟨a3, c3, rfl, hin⟩, hb3⟩
    have m3 := (hb3.block (w.heap.size + 1 + 1) (by simp; omega)).trans ((Below.heap_alloc w2 _ _ l2).trans M2.out)
    obtain ⟨z0, z1, z2⟩ := three_cells m3
    have u0 := Lib.frozen_of_heap m3 0
    have u1 := Lib.frozen_of_heap m3 1
    have u2 := Lib.frozen_of_heap m3 2
    have M3 := Lib.hid m3
    have HI := Lib.hid hin
    have HB3 := Lib.hid ((HB2.out.alloc HB2.out.size (.cells #[.int .i64 x.t.kind, .string x.t.name, .slice x.a x.t.kids.length x.c] 29)).trans (hb3.mono (by simp; omega)))
    clear m3 hin hb3 HO
    simp only [tyV]
    go_wp2
    have hc := three_cells (set3_block M3.out (.int .i64 x.t.kind) (.string x.t.name) (.slice a3 x.t.kids.length c3))
    refine bodyPost_ret (v := .agg #[.int .i64 x.t.kind, .string x.t.name, .slice a3 x.t.kids.length c3]) (by simp [results, Tryd.results14, go_sem, hc.1, hc.2.1, hc.2.2]) rfl ⟨⟨a3, c3, rfl, ?_⟩, below_set3 HB3.out (by omega) _ _ _⟩
    refine (HI.out.keep fun k _ _ hk hh => (set3_others _ _ _ ?_).trans hh).mono fun k hk => ?_
    · have : w2.heap.size + 1 ≤ k := by simpa using hk
      omega
    · have : w2.heap.size + 1 ≤ k := by simpa using hk
      omega

theorem set3_others' {W : World} {r o k : Nat} (x y z : Value) (hk : k ≠ r) : (((W.setCell ⟨r, o, none⟩ x).setCell ⟨r, o + 1, none⟩ y).setCell ⟨r, o + 2, none⟩ z).heap[k]? = W.heap[k]? :=
  (Below.heap_setCell _ ⟨r, o + 2, none⟩ _ k hk).trans ((Below.heap_setCell _ ⟨r, o + 1, none⟩ _ k hk).trans (Below.heap_setCell _ ⟨r, o, none⟩ _ k hk))
theorem below_set3' {N : Nat} {w W : World} (h : Below N w W) {r o : Nat} (hr : N ≤ r) (x y z : Value) : Below N w (((W.setCell ⟨r, o, none⟩ x).setCell ⟨r, o + 1, none⟩ y).setCell ⟨r, o + 2, none⟩ z) :=
  ((h.setCell (p := ⟨r, o, none⟩) hr x).setCell (p := ⟨r, o + 1, none⟩) hr y).setCell (p := ⟨r, o + 2, none⟩) hr z
theorem row_new (w : World) (n : Nat) (o1 o2 o3 : Obj) : ((((w.alloc o1).alloc o2).alloc o3).alloc (.cells (zeros n) 29)).heap[w.heap.size + 1 + 1 + 1]? = some (.cells (zeros n) 29 (0, 0)) := by
  have := alloc_new (((w.alloc o1).alloc o2).alloc o3) (.cells (zeros n) 29)
  simpa using this
theorem below_four (w : World) (o1 o2 o3 o4 : Obj) : Below w.heap.size w ((((w.alloc o1).alloc o2).alloc o3).alloc o4) := (below_three w o1 o2 o3).alloc (by simp; omega) _
theorem new_four (w : World) (o1 o2 o3 o4 : Obj) : ((((w.alloc o1).alloc o2).alloc o3).alloc o4).heap[w.heap.size]? = some o1 ∧ ((((w.alloc o1).alloc o2).alloc o3).alloc o4).heap[w.heap.size + 1]? = some o2 ∧ ((((w.alloc o1).alloc o2).alloc o3).alloc o4).heap[w.heap.size + 1 + 1]? = some o3 := by
  obtain ⟨h1, h2, h3⟩ := new_three w o1 o2 o3
  refine ⟨?_, ?_, ?_⟩
  · rw [Below.heap_alloc _ _ _ (by simp; omega)]; exact h1
  · rw [Below.heap_alloc _ _ _ (by simp)]; exact h2
  · rw [Below.heap_alloc _ _ _ (by simp)]; exact h3

set_option maxRecDepth 100000 in
set_option maxHeartbeats 4000000 in
theorem app_step (d : List PR) (t : T) (H : ∀ k ∈ t.kids, AppOK d k) (hn : t.kids.length ≤ 1000000000) (h0 : t.kids ≠ []) (hv : ∀ n, t ≠ .var n) (hk : (t.kind == 1) = false) : AppOK d t := by
  intro v a c w hs h
  obtain ⟨e1, e2, e3⟩ := app_parts d t hv
  obtain ⟨g, cap, e, hg, hcap, hrow⟩ := h.row h0
  cases e
  have HR := Lib.hid hrow
  have HS := Lib.hid H
  have HSub := Lib.hid hs
  have h0' : ((t.kids.length : Int) == 0) = false := by simpa using h0
  have h0n : ¬ ((t.kids.length : Int) = 0) := by simpa using h0
  have hlen : (app d t).kids.length = t.kids.length := by rw [e3]; simp
  have E3 := Lib.hid e3
  clear hrow H h h0 hs e3
  have hmk := make_row3 t.kids.length hn
  unfold ResT
  rw [hlen]
  simp only [tyV, e1, e2]
  clear e1 e2
  go_enter Tryd.func14, Tryd.ntmps14
  go_wp2
  go_loopw [36] (fun vi wr => ∃ i : Nat, i ≤ t.kids.length ∧ vi = .int .i64 i ∧ Hid (Below w.heap.size w wr) ∧
      wr.heap[w.heap.size]? = some (.cells #[v] 33 (0, 0)) ∧
      wr.heap[w.heap.size + 1]? = some (.cells #[.int .i64 t.kind, .string t.name, .slice (some ⟨g, 0, none⟩) t.kids.length c] 29 (0, 0)) ∧
      wr.heap[w.heap.size + 1 + 1]? = some (.cells #[.int .i64 0, .string ⟨#[]⟩, .slice none 0 0] 29 (0, 0)) ∧ Hid (RowTo (w.heap.size + 1 + 1 + 1) (w.heap.size + 1 + 1 + 1) (t.kids.map (app d)) i wr)) (fun vi _ => t.kids.length - (intOf vi).toNat)
  case atStart =>
    obtain ⟨n1, n2, n3⟩ := new_four w (.cells #[v] 33) (.cells #[.int .i64 t.kind, .string t.name, .slice (some ⟨g, 0, none⟩) t.kids.length c] 29) (.cells #[.int .i64 0, .string ⟨#[]⟩, .slice none 0 0] 29) (.cells (zeros t.kids.length) 29)
    refine ⟨0, Nat.zero_le _, rfl, Lib.hid (below_four w _ _ _ _), n1, n2, n3, Lib.hid (RowTo.start _ _ _ _ ?_)⟩
    rw [List.length_map]
    exact row_new w _ _ _ _
  case round =>
    obtain ⟨i, hi, rfl, hB, hb0, hb1, hb2, hRow⟩ := hrel
    by_cases hlt : i < t.kids.length
    · obtain ⟨pa, ca, x0, x1, x2, xk⟩ := HR.out i hlt
      have f1 := fun o => hB.out.cell (p := ⟨g, o, none⟩) hg
      rw [← f1] at x0 x1 x2
      have hgr : g < wr.heap.size := Nat.lt_of_lt_of_le hg hB.out.size
      have HC := Lib.hid (fun o => HS.out t.kids[i] (List.getElem_mem hlt) v pa ca (wr.alloc o) ((HSub.out.below hB.out).below ((Below.refl _ wr).alloc (Nat.le_refl _) o)) (xk.keep ((KeepT.of_below hB.out).trans (keepT_alloc wr o))))
      have HN := Lib.hid (fun (W : World) (u : Value) (h : RowTo (w.heap.size + 1 + 1 + 1) (w.heap.size + 1 + 1 + 1) (t.kids.map (app d)) i W) (hv : TyIn (fun k => (w.heap.size + 1 + 1 + 1 ≤ k ∧ k ≠ w.heap.size + 1 + 1 + 1) ∧ k < W.heap.size) W (app d t.kids[i]) u) => h.next (by simpa using hlt) (by simpa using hv))
      simp only [List.getElem_map] at HN
      generalize hku : t.kids[i] = u at x0 x1 x2 HC HN
      unfold ResT at HC
      generalize app d u = u' at HC HN
      simp only [tyV] at HC
      have hGlt : w.heap.size + 1 + 1 + 1 < wr.heap.size := by obtain ⟨cs, z, h1, _⟩ := hRow.out; exact (Array.getElem?_eq_some_iff.1 h1).1
      have y0 : wr.cell? ⟨w.heap.size, 0, none⟩ = some v := by rw [Lib.cell_of_heap hb0]; rfl
      have l0 : w.heap.size < wr.heap.size := by omega
      clear f1 xk hku HR
      go_wp2_with (go_at_call 14; refine (HC.out _).mono ?_)
      rintro e w2 ⟨⟨a', c', rfl, hIn⟩, hb⟩
      have hRow2 := (hRow.out.below ((Below.refl _ wr).alloc (Nat.le_refl _) _)).below hb
      obtain ⟨z0, z1, z2, c0, c1, c2, f0, f1, f2⟩ := hRow2.cells (by simpa using hlt)
      have HR2 := Lib.hid (HN.out _ _ hRow2 ((hIn.lt).mono (fun k hk => ⟨⟨by have := hk.1; simp at this; omega, by have := hk.1; simp at this; omega⟩, hk.2⟩)))
      have HB2 := Lib.hid (hB.out.trans (((Below.refl wr.heap.size wr).alloc (Nat.le_refl _) (.cells #[.int .i64 u.kind, .string u.name, .slice pa u.kids.length ca] 29)).trans (hb.mono (by simp)) |>.mono hB.out.size))
      have hsz2 : wr.heap.size + 1 ≤ w2.heap.size := by have := hb.size; simpa using this
      have b0 := (hb.block w.heap.size (by simp; omega)).trans ((Below.heap_alloc wr _ _ (by omega)).trans hb0)
      have b1 := (hb.block (w.heap.size + 1) (by simp; omega)).trans ((Below.heap_alloc wr _ _ (by omega)).trans hb1)
      have b2 := (hb.block (w.heap.size + 1 + 1) (by simp; omega)).trans ((Below.heap_alloc wr _ _ (by omega)).trans hb2)
      have HB0 := Lib.hid b0; have HB1 := Lib.hid b1; have HBz := Lib.hid b2
      clear b0 b1 b2 hIn hb hRow2 HN hb0 hb1 hb2 hRow hB HC x0 x1 x2 y0
      dsimp only [tyV]
      go_wp2
      go_roundw
      case rel => exact ⟨i + 1, by omega, by go_num, Lib.hid (below_set3' HB2.out (by omega) _ _ _), (set3_others' _ _ _ (by omega)).trans HB0.out, (set3_others' _ _ _ (by omega)).trans HB1.out, (set3_others' _ _ _ (by omega)).trans HBz.out, HR2⟩
      case measure => simp [intOf]; omega
    · obtain rfl : i = t.kids.length := by omega
      obtain ⟨c0, c1, c2⟩ := three_cells hb1
      obtain ⟨d0, d1, d2⟩ := three_cells hb2
      have a2 := Lib.frozen_of_heap hb1 2
      have e0 := Lib.frozen_of_heap hb2 0
      have e1 := Lib.frozen_of_heap hb2 1
      have e2 := Lib.frozen_of_heap hb2 2
      have hrw : RowTo (w.heap.size + 1 + 1 + 1) (w.heap.size + 1 + 1 + 1) (t.kids.map (app d)) (t.kids.map (app d)).length wr := by rw [List.length_map]; exact hRow.out
      have HD := Lib.hid (hrw.done E3.out (w.heap.size))
      rw [List.length_map] at HD
      have HB1 := Lib.hid hb2
      clear hb0 hb1 hb2 HR HS hmk hrw hRow
      go_wp2
      have h2 := (Below.heap_setCell wr ⟨w.heap.size + 1, 2, none⟩ (.slice (some ⟨w.heap.size + 1 + 1 + 1, 0, none⟩) t.kids.length t.kids.length) (w.heap.size + 1 + 1) (by show w.heap.size + 1 + 1 ≠ w.heap.size + 1; omega)).trans HB1.out
      have hc := three_cells (set3_block h2 (.int .i64 t.kind) (.string t.name) (.slice (some ⟨w.heap.size + 1 + 1 + 1, 0, none⟩) t.kids.length t.kids.length))
      refine bodyPost_ret (v := .agg #[.int .i64 t.kind, .string t.name, .slice (some ⟨w.heap.size + 1 + 1 + 1, 0, none⟩) t.kids.length t.kids.length]) (by simp [results, Tryd.results14, go_sem, hc.1, hc.2.1, hc.2.2]) rfl ⟨⟨some ⟨w.heap.size + 1 + 1 + 1, 0, none⟩, t.kids.length, rfl, HD.out _ (by omega) ?_⟩, ?_⟩
      · intro k hk
        exact (set3_others _ _ _ (by omega)).trans (Below.heap_setCell _ ⟨w.heap.size + 1, 2, none⟩ _ _ (by show k ≠ w.heap.size + 1; omega))
      · exact below_set3 (hB.out.setCell (p := ⟨w.heap.size + 1, 2, none⟩) (by show w.heap.size ≤ w.heap.size + 1; omega) _) (by omega) _ _ _

theorem kind_one {t : T} (hv : ∀ n, t ≠ .var n) : (t.kind == 1) = false := by
  cases t with
  | var n => exact absurd rfl (hv n)
  | con n l => rfl
  | fn a b => rfl
  | all n a => rfl
theorem app_ok (d : List PR) (hl : d.length < 1152921504606846976) (H : ∀ n x, lk n d = some x → OwnS x.t) (t : T) (h : tsize t ≤ 1000000000) : AppOK d t := by
  by_cases hv : ∃ n, t = .var n
  · obtain ⟨n, rfl⟩ := hv
    exact app_var d n hl (H n)
  · have hv' : ∀ n, t ≠ .var n := fun n e => hv ⟨n, e⟩
    by_cases h0 : t.kids = []
    · exact app_leaf d t h0 hv' (kind_one hv')
    · exact app_step d t (fun k hk => app_ok d hl H k ((kids_small h).2 k hk)) (kids_small h).1 h0 hv' (kind_one hv')
termination_by SizeOf.sizeOf t
decreasing_by exact T.kid_size hk
theorem own_ok (t : T) (h : tsize t ≤ 1000000000) : OwnS t := own_of t (app_ok [] (by decide) (fun n x hx => by cases hx) t h)
theorem own_any {t : T} {v : Value} {w : World} (hs : tsize t ≤ 1000000000) (h : TysAt w v t.kids) :
    Calls Tryd.prog 32 #[tyV t v] w fun e w' => ResT w.heap.size t e w' ∧ Below w.heap.size w w' := by
  obtain ⟨a, c, rfl⟩ := h.shape
  exact own_ok t hs a c w h
/-- No type of a row is greater than so. -/
def SizedAll (d : List PR) : Prop := ∀ x ∈ d, tsize x.t ≤ 1000000000
theorem apply_any {d : List PR} {t : T} {s v : Value} {w : World} (hl : d.length < 1152921504606846976) (hd : SizedAll d) (ht : tsize t ≤ 1000000000) (hs : SubAt s d w) (h : TysAt w v t.kids) :
    Calls Tryd.prog 14 #[.agg #[s], tyV t v] w fun e w' => ResT w.heap.size (app d t) e w' ∧ Below w.heap.size w w' := by
  obtain ⟨a, c, rfl⟩ := h.shape
  exact app_ok d hl (fun n x hx => own_ok x.t (hd x (lk_name hx).1)) t ht s a c w hs h
end Go.Proofs.YthpphjkoiipkkaaDoor
