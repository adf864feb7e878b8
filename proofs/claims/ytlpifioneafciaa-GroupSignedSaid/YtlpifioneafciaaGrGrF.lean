/- group.Groups of definitions none of which is signed. -/
import Derived.Test.YtlpifioneafciaaGrGrT
namespace Go.Proofs.Ytlpifioneafciaa
open Go.RowKit Go.Maps Go.Lib
attribute [local go_sem] Oper.semAt_some

/-- The names that are there, with their nodes. -/
def fN (n : Nat) : Nat → ByteArray → Option Nat
  | 0 => fun _ => none
  | i + 1 => fun k => if k = nmB i then some (n + i) else fN n i k
theorem fN_at (n : Nat) {j : Nat} (hj : j < 13) : ∀ i, i < 13 → fN n i (nmB j) = if j < i then some (n + j) else none
  | 0, _ => by simp [fN]
  | i + 1, hi => by
    unfold fN
    by_cases e : nmB j = nmB i
    · have := nmB_inj j hj i (by omega) e
      subst this
      rw [if_pos rfl, if_pos (by omega)]
    · rw [if_neg e, fN_at n hj i (by omega)]
      have hne : j ≠ i := fun h => e (by rw [h])
      by_cases h : j < i
      · rw [if_pos h, if_pos (by omega)]
      · rw [if_neg h, if_neg (by omega)]
/-- The names' rows, so far. -/
def lsN (n i : Nat) : Nat → List Nat := fun k => if n ≤ k ∧ k < n + i then [k - n] else []
theorem lsN_succ (n i : Nat) : updA (lsN n i) (n + i) ([] ++ [i]) = lsN n (i + 1) := by
  funext k
  unfold updA lsN
  by_cases e : k = n + i
  · subst e; rw [if_pos rfl, if_pos (by omega)]; simp
  · rw [if_neg e]
    by_cases h : n ≤ k ∧ k < n + i
    · rw [if_pos h, if_pos (by omega)]
    · rw [if_neg h, if_neg (by omega)]
theorem RT.keepC {B m : Nat} {tv : Value} {vs : List Value} {ls : Nat → List Nat} {w w' : World} (h : RT B m tv vs ls w) (hk : ∀ (k : Nat) (cs : Array Value) (T : TypeId) (fz : Nat × Nat), w.heap[k]? = some (.cells cs T fz) → w'.heap[k]? = w.heap[k]?) : RT B m tv vs ls w' := by
  refine ⟨⟨h.own.1, ?_⟩, fun k hk' => (h.row k hk').keepAt fun b eb => ?_, h.rr⟩
  · rcases h.own.2 with e | ⟨q, cap, cur, rfl, hB, hq, r⟩
    · exact .inl e
    · exact .inr ⟨q, cap, cur, rfl, hB, (hk q _ _ _ hq).trans hq, r⟩
  · rcases (h.row k hk').2 with ⟨e, _⟩ | ⟨q, cap, cur, e, hB, hq, r⟩
    · rw [e] at eb; cases eb
    · rw [e] at eb
      obtain rfl : q = b := by simpa [Value.ownBlock] using eb
      exact hk q _ _ _ hq
theorem GrSpec5.congr {n N : Nat} {nd nd' : Nat → List Nat} {gs : List (List Nat)} (h : GrSpec5 n nd' gs) (hnN : n ≤ N) (hne : ∀ i, i < N → ∀ x ∈ nd i, x < N) (he : ∀ i, i < N → nd' i = nd i) : GrSpec5 n nd gs := by
  have hne' : ∀ i, i < N → ∀ x ∈ nd' i, x < N := fun i hi x hx => hne i hi x (he i hi ▸ hx)
  have cg : ∀ i j, i < N → (Rch nd' i j ↔ Rch nd i j) := fun i j hi => ⟨fun r => r.congr hne' (fun i hi => (he i hi).symm) hi, fun r => r.congr hne he hi⟩
  have hn : ∀ g ∈ gs, ∀ i ∈ g, i < N := fun g hg i hi => by
    obtain ⟨_, _, _, h2⟩ := h.cls g hg
    have := ((h2 i).1 hi).1
    omega
  refine ⟨fun g hg => ?_, h.srt, h.all, h.dis, h.ord.imp_of_mem fun {g k} hg hk hh i hi j hj r => hh i hi j hj ((cg i j (hn g hg i hi)).2 r)⟩
  obtain ⟨i, h1, h2, h3⟩ := h.cls g hg
  refine ⟨i, h1, h2, fun j => (h3 j).trans ⟨fun ⟨a, b, c⟩ => ⟨a, (cg i j (by omega)).1 b, (cg j i (by omega)).1 c⟩, fun ⟨a, b, c⟩ => ⟨a, (cg i j (by omega)).2 b, (cg j i (by omega)).2 c⟩⟩⟩
theorem mapV_set {M k q r : Nat} {f : ByteArray → Option Nat} {u : Value} {w : World} (h : MapV M k f w) (hq : M ≠ q) : MapV M k f (w.setCell ⟨q, r, none⟩ u) :=
  h.kept (row := some q) ⟨rfl, rfl, rfl, Nat.le_of_eq (size_set w ⟨q, r, none⟩ u).symm, fun i _ hn => heap_set w ⟨q, r, none⟩ u i fun e => hn (by rw [e])⟩ (by simpa using hq)
/-- The nodes' rows, so far. -/
def lsM (n k : Nat) : Nat → List Nat := fun j => if j < k then (if j + 1 < n then [n + j + 1] else []) else lsN n n j
theorem lsM_zero (n : Nat) : lsM n 0 = lsN n n := by funext j; unfold lsM; rw [if_neg (by omega)]
theorem lsM_none {n k : Nat} (hk : k < n) : lsM n k k = [] := by unfold lsM lsN; rw [if_neg (by omega), if_neg (by omega)]
theorem lsM_yes {n k : Nat} (hk : k + 1 < n) : updA (lsM n k) k ([] ++ [n + (k + 1)]) = lsM n (k + 1) := by
  funext j
  unfold updA lsM
  by_cases e : j = k
  · subst e; rw [if_pos rfl, if_pos (by omega), if_pos hk]; rfl
  · rw [if_neg e]
    by_cases h : j < k
    · rw [if_pos h, if_pos (show j < k + 1 by omega)]
    · rw [if_neg h, if_neg (show ¬ j < k + 1 by omega)]
theorem lsM_no {n k : Nat} (hk : k < n) (h1 : ¬ k + 1 < n) : lsM n k = lsM n (k + 1) := by
  funext j
  unfold lsM
  by_cases h : j < k
  · rw [if_pos h, if_pos (show j < k + 1 by omega)]
  · by_cases e : j = k
    · subst e
      rw [if_neg h, if_pos (show j < j + 1 by omega), if_neg h1]
      unfold lsN
      rw [if_neg (by omega)]
    · rw [if_neg h, if_neg (show ¬ j < k + 1 by omega)]
theorem lsM_end (n : Nat) : ∀ i, i < 2 * n → lsM n n i = ndN n i := fun i hi => by
  unfold lsM ndN
  by_cases h : i < n
  · rw [if_pos h, if_pos h]
  · rw [if_neg h, if_neg h, if_pos hi]
    unfold lsN
    rw [if_pos (by omega)]
set_option maxRecDepth 100000 in
set_option maxHeartbeats 8000000 in
theorem groupsF_1 (n : Nat) (v : Value) (B : Nat) (W : World) (hn : n < 12) (_ : B ≤ W.heap.size) (h : W.ownsRow B 45 15 v n (bindsV false n)) :
    Calls Try.prog 12 #[v] W fun e w' => (∃ tv, e = .returned tv ∧ GsR W.heap.size tv ((List.range n).map fun i => [n - 1 - i]) w') ∧ Below W.heap.size W w' := by
  have hmr := fun w => make_rows n n (Nat.le_refl _) (by omega) w
  have hmm : ∀ (T : TypeId) (W : World), (Instr.makeMap T none).run Try.prog W = .ok (.map (some W.heap.size)) (W.alloc (.map #[] 0)) := fun _ _ => rfl
  obtain ⟨i0, hi, hz0, hz1, hz2⟩ := info_parts Try.infoInt0
  obtain ⟨ir, hir, hr0, hr1, hr2⟩ := info_parts Try.infoRows
  have hsh : ∃ a c, v = .slice a n c := by
    rcases id h.2 with ⟨e, e2⟩ | ⟨q, cap, cur, e, _⟩
    · rw [e, e2]; exact ⟨_, _, rfl⟩
    · exact ⟨_, _, e⟩
  obtain ⟨va, vc, rfl⟩ := hsh
  have HV := Lib.hid h
  clear h
  go_enter Try.func12, Try.ntmps12
  go_wp2_with fail
  go_loopw [3, 21] (fun v3 vi X => ∃ (i q cap : Nat) (vs : List Value), i ≤ n ∧ v3 = .slice (some ⟨q, 0, none⟩) (n + i) cap ∧ vi = .int .i64 i ∧ Hid (Below W.heap.size W X) ∧ Hid (RT W.heap.size (n + i) (.slice (some ⟨q, 0, none⟩) (n + i) cap) vs (lsN n i) X) ∧ Hid (MapV (W.heap.size + 1) i (fN n i) X)) (fun _ vi _ => n - (RowKit.intOf vi).toNat)
  case atStart =>
    have hr := RT.start W (Nat.le_refl W.heap.size) (show n ≤ 1000000 by omega)
    rw [show (fun _ : Nat => ([] : List Nat)) = lsN n 0 from by funext k; unfold lsN; rw [if_neg (by omega)]] at hr
    have hm := MapV.start (W.alloc (.cells (madeCells #[.slice none 0 0] n) 22))
    rw [show (W.alloc (.cells (madeCells #[.slice none 0 0] n) 22)).heap.size = W.heap.size + 1 by simp] at hm
    exact ⟨0, _, _, _, Nat.zero_le _, rfl, rfl, Lib.hid (((Below.refl _ W).alloc (Nat.le_refl _) _).alloc (by simp) _), Lib.hid (hr.below (below_allocG _ _)), Lib.hid hm⟩
  case round =>
    rename World => X
    obtain ⟨i, q, cap, vs, hin, rfl, rfl, HB, HR, HM⟩ := hrel
    by_cases hlt : i < n
    · have hltI : (i : Int) < (n : Int) := by omega
      have hi0 : (0 : Int) ≤ (i : Int) := by omega
      obtain ⟨g, gcap, e, hg, hc⟩ := bind_cells HV.out hlt
      cases e
      have hx : ∀ j, j < 15 → X.cell? ⟨g, i * 15 + j, none⟩ = (bindV false i)[j]? := fun j hj => (World.cell?_of_block (a := ⟨g, i * 15 + j, none⟩) (HB.out.block g hg)).trans (hc j hj)
      have d0 : X.cell? ⟨g, i * 15, none⟩ = some (.string (nmB i)) := hx 0 (by omega)
      have d1 : X.cell? ⟨g, i * 15 + 1, none⟩ = some (.bool false) := hx 1 (by omega)
      have d2 : X.cell? ⟨g, i * 15 + 2, none⟩ = some (.slice none 0 0) := hx 2 (by omega)
      have d3 : X.cell? ⟨g, i * 15 + 3, none⟩ = some (.slice none 0 0) := hx 3 (by omega)
      have d4 : X.cell? ⟨g, i * 15 + 4, none⟩ = some (.int .i64 0) := hx 4 (by omega)
      have d5 : X.cell? ⟨g, i * 15 + 5, none⟩ = some (.string ⟨#[]⟩) := hx 5 (by omega)
      have d6 : X.cell? ⟨g, i * 15 + 6, none⟩ = some (.slice none 0 0) := hx 6 (by omega)
      have d7 : X.cell? ⟨g, i * 15 + 7, none⟩ = some (.int .i64 1) := hx 7 (by omega)
      have d8 : X.cell? ⟨g, i * 15 + 8, none⟩ = some (.int .i64 0) := hx 8 (by omega)
      have d9 : X.cell? ⟨g, i * 15 + 9, none⟩ = some (.string (nmB (i + 1))) := hx 9 (by omega)
      have d10 : X.cell? ⟨g, i * 15 + 10, none⟩ = some (.int .i64 0) := hx 10 (by omega)
      have d11 : X.cell? ⟨g, i * 15 + 11, none⟩ = some (.slice none 0 0) := hx 11 (by omega)
      have d12 : X.cell? ⟨g, i * 15 + 12, none⟩ = some (.slice none 0 0) := hx 12 (by omega)
      have d13 : X.cell? ⟨g, i * 15 + 13, none⟩ = some (.slice none 0 0) := hx 13 (by omega)
      have d14 : X.cell? ⟨g, i * 15 + 14, none⟩ = some (.int .i64 0) := hx 14 (by omega)
      obtain ⟨m, hm⟩ : ∃ m, n + i = m := ⟨_, rfl⟩
      have hMA := HM.out.below (below_allocG X (.cells #[.string (nmB i), .bool false, .slice none 0 0, .slice none 0 0, .int .i64 0, .string ⟨#[]⟩, .slice none 0 0, .int .i64 1, .int .i64 0, .string (nmB (i + 1)), .int .i64 0, .slice none 0 0, .slice none 0 0, .slice none 0 0, .int .i64 0] 45))
      have hlk := hMA.look (nmB i) (by have := nmB_size i; unfold maxLen; omega)
      rw [fN_at n (show i < 13 by omega) i (by omega), if_neg (by omega)] at hlk
      simp only [Option.getD_none, Option.isSome_none] at hlk
      obtain ⟨X2, hup, hM2, hg2⟩ := hMA.upd (g := fN n (i + 1)) (by unfold maxLen; omega) (nmB i) (by have := nmB_size i; unfold maxLen; omega) m (by omega) (fun k => by rw [← hm]; rfl)
      have hRA := HR.out.below (below_allocG X (.cells #[.string (nmB i), .bool false, .slice none 0 0, .slice none 0 0, .int .i64 0, .string ⟨#[]⟩, .slice none 0 0, .int .i64 1, .int .i64 0, .string (nmB (i + 1)), .int .i64 0, .slice none 0 0, .slice none 0 0, .slice none 0 0, .int .i64 0] 45))
      have hR2 := hRA.keepC (w' := X2) fun k cs T fz hk => hg2.block k (heap_at hk) fun e => hMA.ne hk (by simpa using e.symm)
      have hB2 := (HB.out.alloc HB.out.size (.cells #[.string (nmB i), .bool false, .slice none 0 0, .slice none 0 0, .int .i64 0, .string ⟨#[]⟩, .slice none 0 0, .int .i64 1, .int .i64 0, .string (nmB (i + 1)), .int .i64 0, .slice none 0 0, .slice none 0 0, .slice none 0 0, .int .i64 0] 45)).grown hg2 (by simp; have := HB.out.size; omega) (fun j e => by cases e; omega)
      rw [hm] at hR2
      have hls : lsN n i m = [] := by unfold lsN; rw [if_neg (by omega)]
      have HO := Lib.hid (fun (o : Obj) => show (X2.alloc o).ownsRow W.heap.size 22 1 (.slice (some ⟨q, 0, none⟩) m cap) m vs from hR2.own.alloc o)
      have HBs := hB2.size
      have HGr := Lib.hid (fun (o : Obj) (v4 : Value) (X4 : World) (hown : X4.ownsRow W.heap.size 22 1 v4 (m + 1) (vs ++ [.slice none 0 0])) (hgr : (X2.alloc o).grownBy X4 (Value.slice (some ⟨q, 0, none⟩) m cap).ownBlock) => show RT W.heap.size (m + 1) v4 (vs ++ [.slice none 0 0]) (lsN n i) X4 ∧ MapV (W.heap.size + 1) (i + 1) (fN n (i + 1)) X4 ∧ Below W.heap.size W X4 from ⟨hR2.grow (below_allocG X2 o) hgr hown hls, (hM2.below (below_allocG X2 o)).kept hgr (fun e => by
          rcases id hR2.own.2 with ⟨e0, _⟩ | ⟨q', c', cur, e0, _, hq, _⟩
          · cases e0
          · cases e0
            exact hM2.ne hq (by simpa [Value.ownBlock] using e)), (hB2.alloc hB2.size o).grown hgr (by simp; omega) (fun j e => hR2.own.lt j e |>.1)⟩)
      rw [hm] at HR ⊢
      clear hx hc hMA hM2 hg2 hRA hR2 hB2
      go_wp2_with (at_builtin; refine wpList_append_own_at _ rfl _ _ 24 rfl W.heap.size 22 ir (.slice none 0 0) 1 24 Try.underlying24 hir hr0 hr1 hr2 rfl (by decide) _ _ _ rfl (HO.out _) ⟨X2.heap.size, 0, none⟩ 1 1 [.slice none 0 0] rfl rfl (frz_oneI _ _ _) (by simp [Value.oneCell']) ?c3 ?c4 ?c5 ?_)
      case c3 => unfold maxLen; omega
      case c4 => omega
      case c5 => first | omega | (simp; omega)
      intro v4 X4 hown4 hgr4 _ hat4
      obtain ⟨hR4, hM4, hB4⟩ := HGr.out _ _ _ hown4 hgr4
      obtain ⟨q4, cap4, rfl, hq4B, hq4, hc4, hf4, hne4⟩ := hR4.at (r := m) (by omega)
      have hvm : (vs ++ [Value.slice none 0 0]).getD m .nilIface = .slice none 0 0 := by
        have := hR4.len
        simp [List.getD, show m = vs.length by simp at this; omega]
      rw [hvm] at hc4
      have HAp := Lib.hid (fun (o : Obj) (w1 : World) (v' : Value) (hown : w1.ownsRow W.heap.size 3 1 v' (0 + 1) (intsV [] ++ [.int .i64 (i : Int)])) (hg : (X4.alloc o).grownBy w1 (Value.slice none 0 0).ownBlock) (hat : v'.ownBlock = (Value.slice none 0 0).ownBlock ∨ v'.ownBlock = some (X4.heap.size + 1)) => hR4.app (x := i) (l := []) (l0 := 0) (by omega) hls rfl hvm hown hg hat)
      have HR4 := Lib.hid hR4
      have HM4 := Lib.hid hM4
      have HB4 := Lib.hid hB4
      have HB4s := hB4.size
      have c4 := fun o : Obj => ((below_allocG X4 o).cell (p := ⟨q4, m, none⟩) hq4).trans hc4
      clear hown4 hgr4 hat4 HGr HO hR4 hM4 hB4 hvm d0 d1 d2 d3 d4 d5 d6 d7 d8 d9 d10 d11 d12 d13 d14
      go_wp2_with (at_builtin; refine wpList_append_own_at _ rfl _ _ 22 rfl W.heap.size 3 i0 (.int .i64 0) 1 8 Try.underlying22 hi hz0 hz1 hz2 rfl (by decide) _ _ _ rfl (World.ownsRow_nil _ _ _ _) ⟨X4.heap.size, 0, none⟩ 1 1 [.int .i64 (i : Int)] rfl rfl (frz_oneI _ _ _) (by simp [Value.oneCell']) ?c3 ?c4 ?c5 ?_)
      case c3 => unfold maxLen; omega
      case c4 => omega
      case c5 => first | omega | (simp; omega)
      intro v6 X6 hown6 hgr6 _ hat6
      obtain ⟨g6, cc6, rfl, hR6, hc6, hf6⟩ := HAp.out _ _ _ hown6 hgr6 hat6
      have hls2 : updA (lsN n i) m ([] ++ [i]) = lsN n (i + 1) := by rw [← hm]; exact lsN_succ n i
      rw [hls2] at hR6
      have HR7 := Lib.hid hR6
      have hMq : W.heap.size + 1 ≠ q4 := by
        rcases id HR4.out.own.2 with ⟨e0, _⟩ | ⟨q', c', cur, e0, _, hq, _⟩
        · cases e0
        · cases e0
          exact HM4.out.ne hq
      have HM7 := Lib.hid (mapV_set (r := m) (u := .slice (some ⟨g6, 0, none⟩) (0 + 1) cc6) ((HM4.out.below (below_allocG X4 _)).kept hgr6 (by simp [Value.ownBlock])) hMq)
      have HB7 := Lib.hid (((HB4.out.alloc HB4s _).grown hgr6 (by simp; omega) (fun j e => by cases e)).setCell (p := ⟨q4, m, none⟩) hq4B (.slice (some ⟨g6, 0, none⟩) (0 + 1) cc6))
      clear hown6 hgr6 hat6 HAp hR6 c4 HR4 HM4 HB4 hc4 hf4 hne4
      go_wp2_with fail
      go_roundw
      case rel => exact ⟨i + 1, q4, cap4, _, by omega, by rw [← hm]; rfl, by go_num, HB7, by rw [show n + (i + 1) = m + 1 by omega]; exact HR7, HM7⟩
      case measure => simp [RowKit.intOf]; omega
    · obtain rfl : i = n := by omega
      have hltI : ¬ (i : Int) < (i : Int) := by omega
      rw [← lsM_zero] at HR
      obtain ⟨m, hm⟩ : ∃ m, i + i = m := ⟨_, rfl⟩
      rw [hm] at HR ⊢
      go_wp2_with fail
      go_loopw [59] (fun vi X => ∃ (k : Nat) (vs : List Value), k ≤ i ∧ vi = .int .i64 k ∧ Hid (Below W.heap.size W X) ∧ Hid (RT W.heap.size m (.slice (some ⟨q, 0, none⟩) m cap) vs (lsM i k) X) ∧ Hid (MapV (W.heap.size + 1) i (fN i i) X)) (fun vi _ => i - (RowKit.intOf vi).toNat)
      case atStart => exact ⟨0, vs, Nat.zero_le _, rfl, HB, HR, HM⟩
      case round =>
        clear HB HR HM X vs
        rename World => X
        obtain ⟨k, vs, hki, rfl, HB, HR, HM⟩ := hrel
        by_cases hk : k < i
        · have hkI : (k : Int) < (i : Int) := by omega
          have hk0 : (0 : Int) ≤ (k : Int) := by omega
          obtain ⟨g, gcap, e, hg, hc⟩ := bind_cells HV.out hk
          cases e
          have hx : ∀ j, j < 15 → X.cell? ⟨g, k * 15 + j, none⟩ = (bindV false k)[j]? := fun j hj => (World.cell?_of_block (a := ⟨g, k * 15 + j, none⟩) (HB.out.block g hg)).trans (hc j hj)
          have d0 : X.cell? ⟨g, k * 15, none⟩ = some (.string (nmB k)) := hx 0 (by omega)
          have d1 : X.cell? ⟨g, k * 15 + 1, none⟩ = some (.bool false) := hx 1 (by omega)
          have d2 : X.cell? ⟨g, k * 15 + 2, none⟩ = some (.slice none 0 0) := hx 2 (by omega)
          have d3 : X.cell? ⟨g, k * 15 + 3, none⟩ = some (.slice none 0 0) := hx 3 (by omega)
          have d4 : X.cell? ⟨g, k * 15 + 4, none⟩ = some (.int .i64 0) := hx 4 (by omega)
          have d5 : X.cell? ⟨g, k * 15 + 5, none⟩ = some (.string ⟨#[]⟩) := hx 5 (by omega)
          have d6 : X.cell? ⟨g, k * 15 + 6, none⟩ = some (.slice none 0 0) := hx 6 (by omega)
          have d7 : X.cell? ⟨g, k * 15 + 7, none⟩ = some (.int .i64 1) := hx 7 (by omega)
          have d8 : X.cell? ⟨g, k * 15 + 8, none⟩ = some (.int .i64 0) := hx 8 (by omega)
          have d9 : X.cell? ⟨g, k * 15 + 9, none⟩ = some (.string (nmB (k + 1))) := hx 9 (by omega)
          have d10 : X.cell? ⟨g, k * 15 + 10, none⟩ = some (.int .i64 0) := hx 10 (by omega)
          have d11 : X.cell? ⟨g, k * 15 + 11, none⟩ = some (.slice none 0 0) := hx 11 (by omega)
          have d12 : X.cell? ⟨g, k * 15 + 12, none⟩ = some (.slice none 0 0) := hx 12 (by omega)
          have d13 : X.cell? ⟨g, k * 15 + 13, none⟩ = some (.slice none 0 0) := hx 13 (by omega)
          have d14 : X.cell? ⟨g, k * 15 + 14, none⟩ = some (.int .i64 0) := hx 14 (by omega)
          have HB2 := Lib.hid (HB.out.alloc HB.out.size (.cells #[.string (nmB k), .bool false, .slice none 0 0, .slice none 0 0, .int .i64 0, .string ⟨#[]⟩, .slice none 0 0, .int .i64 1, .int .i64 0, .string (nmB (k + 1)), .int .i64 0, .slice none 0 0, .slice none 0 0, .slice none 0 0, .int .i64 0] 45))
          have HR2 := Lib.hid (HR.out.below (below_allocG X (.cells #[.string (nmB k), .bool false, .slice none 0 0, .slice none 0 0, .int .i64 0, .string ⟨#[]⟩, .slice none 0 0, .int .i64 1, .int .i64 0, .string (nmB (k + 1)), .int .i64 0, .slice none 0 0, .slice none 0 0, .slice none 0 0, .int .i64 0] 45)))
          have HM2 := Lib.hid (HM.out.below (below_allocG X (.cells #[.string (nmB k), .bool false, .slice none 0 0, .slice none 0 0, .int .i64 0, .string ⟨#[]⟩, .slice none 0 0, .int .i64 1, .int .i64 0, .string (nmB (k + 1)), .int .i64 0, .slice none 0 0, .slice none 0 0, .slice none 0 0, .int .i64 0] 45)))
          have HF := Lib.hid (freev_any (ps := 0) (nn := 0) (nm := nmB (k + 1)) (vl := .slice none 0 0) (va := .slice none 0 0) (vb := .slice none 0 0) (X.alloc (.cells #[.string (nmB k), .bool false, .slice none 0 0, .slice none 0 0, .int .i64 0, .string ⟨#[]⟩, .slice none 0 0, .int .i64 1, .int .i64 0, .string (nmB (k + 1)), .int .i64 0, .slice none 0 0, .slice none 0 0, .slice none 0 0, .int .i64 0] 45)) (nmB_size _))
          clear hx hc HB HR HM
          go_wp2_with (go_at_call 16; fail)
          refine HF.out.mono ?_
          rintro e Y ⟨⟨fg, fc, rfl, hfc, hfl⟩, hbY⟩
          have HB3 := Lib.hid (HB2.out.trans (hbY.mono HB2.out.size))
          have HR3 := Lib.hid (HR2.out.below hbY)
          have HM3 := Lib.hid (HM2.out.below hbY)
          have hlk := HM3.out.look (nmB (k + 1)) (by have := nmB_size (k + 1); unfold maxLen; omega)
          rw [fN_at i (show k + 1 < 13 by omega) i (by omega)] at hlk
          clear hfl hbY HB2 HR2 HM2 HF d0 d1 d2 d3 d4 d5 d6 d7 d8 d9 d10 d11 d12 d13 d14
          by_cases hk1 : k + 1 < i
          · rw [if_pos hk1] at hlk
            simp only [Option.getD_some, Option.isSome_some] at hlk
            obtain ⟨y, hy⟩ : ∃ y, i + (k + 1) = y := ⟨_, rfl⟩
            rw [hy] at hlk
            obtain ⟨q', cap', e, hqB, hq, hcq, hfq, hneq⟩ := HR3.out.at (r := k) (by omega)
            cases e
            have hnone := lsM_none hk
            have hrow := HR3.out.row k (by omega)
            rw [hnone] at hrow
            obtain ⟨rv, hrv⟩ : ∃ rv, vs.getD k .nilIface = rv := ⟨_, rfl⟩
            rw [hrv] at hrow hcq
            obtain ⟨ra, rc, hsh⟩ := hrow.shape
            subst hsh
            have HRw := Lib.hid (fun (o : Obj) => show (Y.alloc o).ownsRow W.heap.size 3 1 (.slice ra 0 rc) 0 (intsV []) from hrow.alloc o)
            have HAp := Lib.hid (fun (o : Obj) (w1 : World) (v' : Value) (hown : w1.ownsRow W.heap.size 3 1 v' (0 + 1) (intsV [] ++ [.int .i64 (y : Int)])) (hg : (Y.alloc o).grownBy w1 (Value.slice ra 0 rc).ownBlock) (hat : v'.ownBlock = (Value.slice ra 0 rc).ownBlock ∨ v'.ownBlock = some (Y.heap.size + 1)) => HR3.out.app (x := y) (l := []) (l0 := 0) (by omega) hnone rfl hrv hown hg hat)
            have HYs := HB3.out.size
            have hMq : W.heap.size + 1 ≠ q := by
              rcases id HR3.out.own.2 with ⟨e0, _⟩ | ⟨q', c', cur, e0, _, hq, _⟩
              · cases e0
              · cases e0
                exact HM3.out.ne hq
            have hMr : some (W.heap.size + 1) ≠ (Value.slice ra 0 rc).ownBlock := fun e => by
              rcases hrow.2 with ⟨e0, _⟩ | ⟨q', c', cur, e0, _, hq, _⟩
              · have e1 : Value.slice ra 0 rc = .slice none 0 0 := e0
                rw [e1] at e; cases e
              · have e1 : Value.slice ra 0 rc = .slice (some ⟨q', 0, none⟩) 0 c' := e0
                rw [e1] at e
                exact HM3.out.ne hq (by simpa [Value.ownBlock] using e)
            have hge : ∀ j, (Value.slice ra 0 rc).ownBlock = some j → W.heap.size ≤ j := fun j e => hrow.ge e
            have c4 := fun o : Obj => ((below_allocG Y o).cell (p := ⟨q, k, none⟩) hq).trans hcq
            clear hrow hnone hneq
            go_wp2_with fail
            go_loopw [68] (fun vi Z => ∃ j : Nat, j ≤ 1 ∧ vi = .int .i64 j ∧ ((j = 0 ∧ Z = Y) ∨ (j = 1 ∧ ∃ vs', Hid (Below W.heap.size W Z) ∧ Hid (RT W.heap.size m (.slice (some ⟨q, 0, none⟩) m cap) vs' (lsM i (k + 1)) Z) ∧ Hid (MapV (W.heap.size + 1) i (fN i i) Z)))) (fun vi _ => 1 - (RowKit.intOf vi).toNat)
            case atStart => exact ⟨0, by omega, rfl, .inl ⟨rfl, rfl⟩⟩
            case round =>
              rename World => Z
              obtain ⟨j, hj1, rfl, hZ⟩ := hrel
              rcases hZ with ⟨rfl, hZ⟩ | ⟨rfl, vs', hB5, hR5, hM5⟩
              · rw [hZ]
                clear hZ
                go_wp2_with (at_builtin; refine wpList_append_own_at _ rfl _ _ 22 rfl W.heap.size 3 i0 (.int .i64 0) 1 8 Try.underlying22 hi hz0 hz1 hz2 rfl (by decide) _ _ _ rfl (HRw.out _) ⟨Y.heap.size, 0, none⟩ 1 1 [.int .i64 (y : Int)] rfl rfl (frz_oneI _ _ _) (by simp [Value.oneCell']) ?c3 ?c4 ?c5 ?_)
                case c3 => unfold maxLen; omega
                case c4 => omega
                case c5 => first | omega | (simp; omega)
                intro v6 X6 hown6 hgr6 _ hat6
                obtain ⟨g6, cc6, rfl, hR6, hc6, hf6⟩ := HAp.out _ _ _ hown6 hgr6 hat6
                have hls2 : updA (lsM i k) k ([] ++ [y]) = lsM i (k + 1) := by rw [← hy]; exact lsM_yes hk1
                rw [hls2] at hR6
                have HR7 := Lib.hid hR6
                have HM7 := Lib.hid (mapV_set (r := k) (u := .slice (some ⟨g6, 0, none⟩) (0 + 1) cc6) ((HM3.out.below (below_allocG Y _)).kept hgr6 hMr) hMq)
                have HB7 := Lib.hid (((HB3.out.alloc HYs _).grown hgr6 (by simp; omega) hge).setCell (p := ⟨q, k, none⟩) hqB (.slice (some ⟨g6, 0, none⟩) (0 + 1) cc6))
                clear hown6 hgr6 hat6 HAp hR6 c4 HR3 HM3 HB3 HRw
                go_wp2_with fail
                go_roundw
                case rel => exact ⟨1, by omega, by go_num, .inr ⟨rfl, _, HB7, HR7, HM7⟩⟩
                case measure => simp [RowKit.intOf]
              · clear HAp HRw HB3 HR3 HM3 c4 hcq hlk hfc
                go_wp2_with fail
                go_roundw
                case rel => exact ⟨k + 1, vs', by omega, by go_num, hB5, hR5, hM5⟩
                case measure => simp [RowKit.intOf]; omega
          · rw [if_neg hk1] at hlk
            simp only [Option.getD_none, Option.isSome_none] at hlk
            have HR4 := Lib.hid (show RT W.heap.size m (.slice (some ⟨q, 0, none⟩) m cap) vs (lsM i (k + 1)) Y from lsM_no hk hk1 ▸ HR3.out)
            clear HR3
            go_wp2_with fail
            go_loopw [68] (fun vi Z => ∃ j : Nat, j ≤ 1 ∧ vi = .int .i64 j ∧ Z = Y) (fun vi _ => 1 - (RowKit.intOf vi).toNat)
            case atStart => exact ⟨0, by omega, rfl, rfl⟩
            case round =>
              obtain ⟨j, hj1, rfl, rfl⟩ := hrel
              by_cases hj : j < 1
              · obtain rfl : j = 0 := by omega
                go_wp2_with fail
                go_roundw
                case rel => exact ⟨1, by omega, by go_num, trivial⟩
                case measure => simp [RowKit.intOf]
              · obtain rfl : j = 1 := by omega
                go_wp2_with fail
                go_roundw
                case rel => exact ⟨k + 1, vs, by omega, by go_num, HB3, HR4, HM3⟩
                case measure => simp [RowKit.intOf]; omega
        · obtain rfl : k = i := by omega
          have hkI : ¬ (k : Int) < (k : Int) := by omega
          have he : ∀ a, a < m → lsM k k a = ndN k a := fun a ha => lsM_end k a (by omega)
          have hne : ∀ a, a < m → ∀ x ∈ lsM k k a, x < m := fun a ha x hx => by
            rw [he a ha] at hx
            have := ndN_in a (by omega) x hx
            omega
          have hl1 : ∀ a, (lsM k k a).length ≤ 1 := fun a => by
            unfold lsM lsN
            split
            · split <;> simp
            · split <;> simp
          have hs0 : sumN (lsM k k) m < 1000000000 := by
            have : ∀ j, sumN (lsM k k) j ≤ j := fun j => by
              induction j with
              | zero => exact Nat.le_refl _
              | succ j ih => rw [sumN_succ]; have := hl1 j; omega
            have := this m; omega
          have HO := Lib.hid (order_any (n := k) (N := m) (cap := cap) X HR.out.rows (Nat.zero_le _) (by omega) hne hs0)
          have HB2 := Lib.hid HB.out
          have HNE := Lib.hid (And.intro hne he)
          clear HB HR HM hs0 hne he hl1
          go_wp2_with (go_at_call 14; fail)
          refine HO.out.mono ?_
          rintro e w5 ⟨⟨tv, dn, t, B0, ok, rfl, hra, hgr, hno, htl, hB0, hok⟩, hb5⟩
          have hsp := (spec_ofN (n := k) (N := m) (by omega) (by unfold grTop; omega) HNE.out.1 hra hgr hno).congr (nd := ndN k) (N := m) (by omega) (fun a ha x hx => HNE.out.1 a ha x (by rw [HNE.out.2 a ha]; exact hx)) HNE.out.2
          have hgs := gsN hsp
          have hG := GsR.of (B := W.heap.size) htl (Nat.le_trans HB2.out.size hB0) fun k hk => Nat.le_trans HB2.out.size (hok k hk)
          rw [hgs] at hG
          have HG := Lib.hid hG
          have HB5 := Lib.hid (HB2.out.trans (hb5.mono HB2.out.size))
          clear hra hgr hno htl hsp hgs hG hb5 HO HB2
          go_wp2
          go_ret
          exact ⟨⟨tv, rfl, HG.out⟩, HB5.out⟩
end Go.Proofs.Ytlpifioneafciaa
