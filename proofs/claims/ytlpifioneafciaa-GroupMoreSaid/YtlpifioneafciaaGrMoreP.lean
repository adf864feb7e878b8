/- GroupMore: one more need; rows of rows compared. -/
import Derived.Test.YtlpifioneafciaaGrOrdL
import Derived.BigQuiet
import Derived.Lib.QuietBelow
namespace Go.Proofs.Ytlpifioneafciaa
open Go.RowKit Go.Maps Go.Lib Go.Sort
attribute [local go_sem] Oper.semAt_some

theorem nodup_lenA {α : Type} [DecidableEq α] {l R : List α} (hn : l.Nodup) (hs : ∀ i ∈ l, i ∈ R) : l.length ≤ R.length := by
  induction l generalizing R with
  | nil => exact Nat.zero_le _
  | cons a l ih =>
    have hp := List.perm_cons_erase (hs a (by simp))
    have hn' := List.nodup_cons.1 hn
    have := ih (R := R.erase a) hn'.2 fun j hj => (List.mem_erase_of_ne (fun e => hn'.1 (by rw [← e]; exact hj))).2 (hs j (List.mem_cons_of_mem _ hj))
    rw [hp.length_eq, List.length_cons, List.length_cons]; omega
/-- With more needs there are no more groups. -/
theorem GrSpec.count {n : Nat} {nd nd' : Nat → List Nat} {gs hs : List (List Nat)} (h : GrSpec n nd gs) (h' : GrSpec n nd' hs) (hr : ∀ i j, i < n → Rch nd i j → Rch nd' i j) : hs.length ≤ gs.length := by
  have ex : ∀ g : List Nat, ∃ k : List Nat, g ∈ gs → k ∈ hs ∧ ∃ i ∈ g, i ∈ k := fun g => by
    by_cases hg : g ∈ gs
    · obtain ⟨i, i1, i2, _⟩ := h.cls g hg
      obtain ⟨k, hk, hik⟩ := h'.all i i1
      exact ⟨k, fun _ => ⟨hk, i, i2, hik⟩⟩
    · exact ⟨[], fun e => absurd e hg⟩
  have hF := fun g => (ex g).choose_spec
  have hn : hs.Nodup := h'.dis.imp_of_mem fun {g k} hg _ hh e => by
    obtain ⟨i, _, hi, _⟩ := h'.cls g hg
    exact hh i hi (e ▸ hi)
  have := nodup_lenA (l := hs) (R := gs.map fun g => (ex g).choose) hn fun k hk => by
    obtain ⟨i, i1, i2, _⟩ := h'.cls k hk
    obtain ⟨g, hg, hig⟩ := h.all i i1
    obtain ⟨f1, j, j1, j2⟩ := hF g hg
    obtain ⟨_, r1, r2⟩ := (h.mem hg hig).1 j1
    refine List.mem_map.2 ⟨g, hg, ?_⟩
    have hjn := h.lt hg j1
    have hjk : j ∈ k := (h'.mem hk i2).2 ⟨hjn, hr i j i1 r1, hr j i hjn r2⟩
    refine sorted_same _ _ (h'.srt _ f1) (h'.srt _ hk) fun z => ?_
    rw [h'.mem f1 j2, h'.mem hk hjk]
  simpa using this
/-- One more need. -/
theorem Rch.more {nd : Nat → List Nat} {a b i j : Nat} (h : Rch nd i j) : Rch (updA nd a (nd a ++ [b])) i j := by
  induction h with
  | refl _ => exact .refl _
  | @step x z y h1 _ ih =>
    refine .step ?_ ih
    by_cases e : x = a
    · subst e; rw [updA_same]; exact List.mem_append_left _ h1
    · rw [updA_ne nd _ e]; exact h1
theorem Rch.less {nd : Nat → List Nat} {a b i j : Nat} (hb : b ∈ nd a) (h : Rch (updA nd a (nd a ++ [b])) i j) : Rch nd i j := by
  induction h with
  | refl _ => exact .refl _
  | @step x z y h1 _ ih =>
    refine .step ?_ ih
    by_cases e : x = a
    · subst e
      rw [updA_same] at h1
      rcases List.mem_append.1 h1 with h2 | h2
      · exact h2
      · obtain rfl : z = b := by simpa using h2
        exact hb
    · rw [updA_ne nd _ e] at h1; exact h1
/-- Where each one stands, without what stands nowhere. -/
structure PosW (gs : List (List Nat)) (n : Nat) (A : Nat → Int) (i k : Nat) : Prop where
  old : ∀ v, v < n → ∀ j, j < i → v ∈ gs.getD j [] → A v = (j : Int)
  cur : ∀ v, v < n → ∀ m, m < k → (gs.getD i []).getD m 0 = v → A v = (i : Int)
theorem PosW.start {gs : List (List Nat)} {n : Nat} {A : Nat → Int} : PosW gs n A 0 0 := ⟨fun v _ j hj => by omega, fun v _ m hm => by omega⟩
theorem PosW.add {n : Nat} {nd : Nat → List Nat} {gs : List (List Nat)} {A : Nat → Int} {i k : Nat} (h : PosW gs n A i k) (hs : GrSpec n nd gs) (hi : i < gs.length) (hk : k < (gs.getD i []).length) : PosW gs n (updA A ((gs.getD i []).getD k 0) (i : Int)) i (k + 1) := by
  refine ⟨fun v hv j hj hm => ?_, fun v hv m hm e => ?_⟩
  · by_cases e : v = (gs.getD i []).getD k 0
    · exact absurd (getD_mem hk) (e ▸ hs.apart hi hj hm)
    · rw [updA_ne A _ e]; exact h.old v hv j hj hm
  · by_cases e2 : v = (gs.getD i []).getD k 0
    · rw [e2, updA_same]
    · rw [updA_ne A _ e2]
      by_cases e3 : m = k
      · exact absurd (e3 ▸ e).symm e2
      · exact h.cur v hv m (by omega) e
theorem PosW.next {gs : List (List Nat)} {n : Nat} {A : Nat → Int} {i : Nat} (h : PosW gs n A i (gs.getD i []).length) : PosW gs n A (i + 1) 0 := by
  refine ⟨fun v hv j hj hm => ?_, fun v _ m hm => by omega⟩
  by_cases e : j = i
  · subst e
    obtain ⟨m, hm1, hm2⟩ := List.getElem_of_mem hm
    exact h.cur v hv m hm1 (by rw [getD_get hm1]; exact hm2)
  · exact h.old v hv j (by omega) hm
theorem PosW.end {n : Nat} {nd : Nat → List Nat} {gs : List (List Nat)} {A : Nat → Int} (h : PosW gs n A gs.length 0) (hs : GrSpec n nd gs) : PosE gs n A := fun v hv => by
  obtain ⟨g, hg, hvg⟩ := hs.all v hv
  obtain ⟨p, hp, rfl⟩ := List.getElem_of_mem hg
  have e : gs.getD p [] = gs[p] := by simp [List.getD, hp]
  exact ⟨p, hp, h.old v hv p hp (e ▸ hvg), e ▸ hvg⟩
theorem PosE.eq {n : Nat} {nd : Nat → List Nat} {gs : List (List Nat)} {A : Nat → Int} (h : PosE gs n A) (hs : GrSpec n nd gs) {i j : Nat} (hi : i < n) (hj : j < n) (h1 : Rch nd i j) (h2 : Rch nd j i) : A i = A j := by
  have := h.le hs hi hj h1; have := h.le hs hj hi h2; omega
theorem RowQ.below {ok : Nat → Prop} {v : Value} {l : List Nat} {w w' : World} (h : RowQ ok v l w) (hb : Below w.heap.size w w') : RowQ ok v l w' := h.keep hb.size fun k _ hk => hb.block k hk
theorem GsR.keepB {B : Nat} {tv : Value} {gs : List (List Nat)} {w w' : World} (h : GsR B tv gs w) (hs : w.heap.size ≤ w'.heap.size) (hk : ∀ k, B ≤ k → k < w.heap.size → w'.heap[k]? = w.heap[k]?) : GsR B tv gs w' := by
  obtain ⟨vs, h1, h2, h3⟩ := h
  refine ⟨vs, ⟨h1.1, ?_⟩, h2, fun i hi => (h3 i hi).keep hs hk⟩
  rcases h1.2 with e | ⟨q, cap, cur, rfl, hB, hq, r⟩
  · exact .inl e
  · exact .inr ⟨q, cap, cur, rfl, hB, (hk q hB (heap_at hq)).trans hq, r⟩
/-- As app2, and what else stays. -/
theorem tb_app3 {B q n r x m : Nat} {rv : Nat → Value} {ls : Nat → List Nat} {l : List Nat} {w0 w w1 : World} {v v' : Value} {o : Obj} (h : TB B q n rv ls w) (hb : Below B w0 w) (hr : r < n) (hl : ls r = l) (hm : l.length = m) (hv : rv r = v) (hown : w1.ownsRow B 3 1 v' (m + 1) (intsV l ++ [.int .i64 (x : Int)])) (hg : (w.alloc o).grownBy w1 v.ownBlock) (hat : v'.ownBlock = v.ownBlock ∨ v'.ownBlock = some (w.heap.size + 1)) :
    ∃ g cap, v' = .slice (some ⟨g, 0, none⟩) (m + 1) cap ∧ TK B q n (updA ls r (l ++ [x])) w0 (w1.setCell ⟨q, r, none⟩ (.slice (some ⟨g, 0, none⟩) (m + 1) cap)) ∧ w1.cell? ⟨q, r, none⟩ = some v ∧ w1.frozen? ⟨q, r, none⟩ = false ∧ w.heap.size ≤ (w1.setCell ⟨q, r, none⟩ (.slice (some ⟨g, 0, none⟩) (m + 1) cap)).heap.size ∧ ∀ k, k < w.heap.size → k ≠ q → v.ownBlock ≠ some k → (w1.setCell ⟨q, r, none⟩ (.slice (some ⟨g, 0, none⟩) (m + 1) cap)).heap[k]? = w.heap[k]? := by
  obtain ⟨g, cap, e, h1, h2, h3⟩ := h.app2 hb hr hl hm hv hown hg hat
  have hV : Below w.heap.size w (w.alloc o) := below_allocG w o
  refine ⟨g, cap, e, h1, h2, h3, ?_, fun k hk hkq he => (heap_set w1 ⟨q, r, none⟩ _ k hkq).trans ((hg.block k (Nat.lt_of_lt_of_le hk hV.size) (Ne.symm he)).trans (hV.block k hk))⟩
  rw [size_set]
  exact Nat.le_trans hV.size hg.size
set_option maxRecDepth 100000 in
set_option maxHeartbeats 8000000 in
theorem sameInts_any {ok ok' : Nat → Prop} {a b : Option Addr} {c d : Nat} {l : List Nat} (w : World) (h : RowQ ok (.slice a l.length c) l w) (h' : RowQ ok' (.slice b l.length d) l w) (hl : l.length ≤ 1000000) :
    Calls Try.prog 15 #[.slice a l.length c, .slice b l.length d] w fun e w' => e = .returned (.bool true) ∧ Below w.heap.size w w' := by
  have H := Lib.hid h
  have H' := Lib.hid h'
  obtain ⟨n, hn⟩ : ∃ n, l.length = n := ⟨_, rfl⟩
  have HN := Lib.hid hn
  rw [hn] at hl ⊢
  clear h h' hn
  go_enter Try.func15, Try.ntmps15
  go_wp2_with fail
  go_loopw [5] (fun vi W => ∃ i : Nat, i ≤ n ∧ vi = .int .i64 i ∧ Hid (Below w.heap.size w W)) (fun vi _ => n - (RowKit.intOf vi).toNat)
  case atStart => exact ⟨0, Nat.zero_le _, rfl, Lib.hid (Below.refl _ w)⟩
  case round =>
    rename World => W
    obtain ⟨i, hin, rfl, HB⟩ := hrel
    by_cases hlt : i < n
    · have hltI : (i : Int) < (n : Int) := by omega
      have hi0 : (0 : Int) ≤ (i : Int) := by omega
      obtain ⟨g, o, rfl, _, hc⟩ := (H.out.below HB.out).at (by rw [HN.out]; omega)
      obtain ⟨g', o', rfl, _, hc'⟩ := (H'.out.below HB.out).at (by rw [HN.out]; omega)
      have c1 := hc i (by rw [HN.out]; exact hlt)
      have c2 := hc' i (by rw [HN.out]; exact hlt)
      obtain ⟨x, hx⟩ : ∃ x, l.getD i 0 = x := ⟨_, rfl⟩
      rw [hx] at c1 c2
      clear hc hc' hx
      go_wp2_with fail
      go_quiet (fail)
      go_wp2_with fail
      go_roundw
      case rel => exact ⟨i + 1, by omega, by go_num, Lib.hid (below_drewN HB.out _)⟩
      case measure => simp [RowKit.intOf]; omega
    · obtain rfl : i = n := by omega
      have hltI : ¬ (i : Int) < (i : Int) := by omega
      go_wp2
      go_ret
      exact ⟨rfl, HB.out⟩
set_option maxRecDepth 100000 in
set_option maxHeartbeats 8000000 in
theorem sameRows_any {B B' G c d : Nat} {a b : Option Addr} {gs : List (List Nat)} (w : World) (h : GsR B (.slice a G c) gs w) (h' : GsR B' (.slice b G d) gs w) (hG : gs.length = G) (hl : G ≤ 1000000) (hll : ∀ i, i < gs.length → (gs.getD i []).length ≤ 1000000) :
    Calls Try.prog 10 #[.slice a G c, .slice b G d] w fun e w' => e = .returned (.bool true) ∧ Below w.heap.size w w' := by
  have H := Lib.hid h
  have H' := Lib.hid h'
  have HL := Lib.hid hll
  have HG := Lib.hid hG
  clear h h' hll hG
  go_enter Try.func10, Try.ntmps10
  go_wp2_with fail
  go_loopw [5] (fun vi W => ∃ i : Nat, i ≤ G ∧ vi = .int .i64 i ∧ Hid (Below w.heap.size w W)) (fun vi _ => G - (RowKit.intOf vi).toNat)
  case atStart => exact ⟨0, Nat.zero_le _, rfl, Lib.hid (Below.refl _ w)⟩
  case round =>
    rename World => W
    obtain ⟨i, hin, rfl, HB⟩ := hrel
    by_cases hlt : i < G
    · have hltI : (i : Int) < (G : Int) := by omega
      have hi0 : (0 : Int) ≤ (i : Int) := by omega
      have hil : i < gs.length := by rw [HG.out]; exact hlt
      obtain ⟨q, rfl, ra, rc, y1, yr⟩ := (H.out.keep HB.out).rowAt hil
      obtain ⟨q', rfl, ra', rc', y1', yr'⟩ := (H'.out.keep HB.out).rowAt hil
      have X1 := cell_regrown y1
      have X2 := cell_regrown y1'
      have hlen := HL.out i hil
      have hH := fun dd os => Calls.regrown_of (sameInts_any (grow (redrawn W dd) os) (yr.below (below_regrown W dd os)) (yr'.below (below_regrown W dd os)) hlen)
      clear y1 y1' yr yr' hil
      go_wp2_with fail
      refine wp_region_quiet_below (by kernel_rfl) (by kernel_rfl) ?_
      repeat (quiet_step (first | exact hH _ _ | (go_at_fn 15; exact hH _ _)))
      refine wpQuiet_nil ?_
      intro _ hw'
      obtain ⟨⟨dq, osq⟩, hw''⟩ := hw'
      subst hw''
      have HB5 := Lib.hid (HB.out.trans ((below_regrown W dq osq).mono HB.out.size))
      clear X1 X2 hH
      go_wp2_with fail
      go_roundw
      case rel => exact ⟨i + 1, by omega, by go_num, HB5⟩
      case measure => simp [RowKit.intOf]; omega
    · obtain rfl : i = G := by omega
      have hltI : ¬ (i : Int) < (i : Int) := by omega
      go_wp2
      go_ret
      exact ⟨rfl, HB.out⟩
end Go.Proofs.Ytlpifioneafciaa
