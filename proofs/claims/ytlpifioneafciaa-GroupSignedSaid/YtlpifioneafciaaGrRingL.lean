/- GroupRing: the law. -/
import Derived.Test.YtlpifioneafciaaGrFirst
namespace Go.Proofs.Ytlpifioneafciaa
open Go.RowKit Go.Maps Go.Lib
attribute [local go_sem] Oper.semAt_some

theorem ret_intG {x y : Int} (h : x = y) : Ending.returned (.int .i64 x) = Ending.returned (.int .i64 y) := by rw [h]
theorem number_anyG (z : Int) (n : Nat) (w : World) (_ : -9223372036854775808 ≤ z) (_ : z ≤ 9223372036854775807) (hn0 : 0 < n) (hn : n ≤ 1000000) :
    Calls Try.prog 13 #[.int .i64 z, .int .i64 (n : Int)] w fun e w' => ∃ r : Nat, r < n ∧ e = .returned (.int .i64 (r : Int)) ∧ w = w' := by
  have k1 := Int.tmod_lt_of_pos z (show (0 : Int) < (n : Int) by omega)
  have k2 := Int.lt_tmod_of_pos z (show (0 : Int) < (n : Int) by omega)
  obtain ⟨q, hq⟩ : ∃ q, z.tmod (n : Int) = q := ⟨_, rfl⟩
  rw [hq] at k1 k2
  have hn1 : ((n : Int) == 0) = false := by simp; omega
  go_enter Try.func13, Try.ntmps13
  go_wp2
  · go_ret
    exact ⟨(q + n).toNat, by omega, ret_intG (by omega), rfl⟩
  · go_ret
    exact ⟨q.toNat, by omega, ret_intG (by omega), rfl⟩
/-- What a ring's nodes need, one more that it needs, one more that needs it. -/
def ndR (n at' : Nat) : Nat → List Nat := fun k => if k < n then (if k = at' then [(k + 1) % n, n] else [(k + 1) % n]) else if k = n + 1 then [at'] else []
theorem ndR_next {n at' i : Nat} (hi : i < n) : (i + 1) % n ∈ ndR n at' i := by
  unfold ndR
  rw [if_pos hi]
  split <;> simp
theorem ndR_walk {n at' i : Nat} (hi : i < n) : ∀ k, Rch (ndR n at') i ((i + k) % n)
  | 0 => by rw [Nat.add_zero, Nat.mod_eq_of_lt hi]; exact .refl _
  | k + 1 => by
    have h1 := ndR_walk (at' := at') hi k
    have hlt : (i + k) % n < n := Nat.mod_lt _ (by omega)
    have h2 := ndR_next (at' := at') hlt
    rw [show ((i + k) % n + 1) % n = (i + (k + 1)) % n by rw [Nat.mod_add_mod, Nat.add_assoc]] at h2
    exact h1.trans (.one h2)
theorem ndR_all {n at' i j : Nat} (hi : i < n) (hj : j < n) : Rch (ndR n at') i j := by
  have := ndR_walk (at' := at') hi (j + (n - i))
  rw [show i + (j + (n - i)) = j + n by omega, Nat.add_mod_right, Nat.mod_eq_of_lt hj] at this
  exact this
theorem ndR_low {n at' i j : Nat} (ha : at' < n) (h : Rch (ndR n at') i j) (hi : i ≤ n) : j ≤ n := by
  induction h with
  | refl _ => exact hi
  | @step x z y h1 _ ih =>
    refine ih ?_
    unfold ndR at h1
    have hm : (x + 1) % n < n := Nat.mod_lt _ (by omega)
    split at h1
    · split at h1
      · simp at h1; omega
      · simp at h1; omega
    · split at h1
      · simp at h1; omega
      · cases h1
theorem ndR_end {n at' j : Nat} (h : Rch (ndR n at') n j) : j = n := by
  cases h with
  | refl _ => rfl
  | step h1 _ =>
    unfold ndR at h1
    rw [if_neg (by omega), if_neg (by omega)] at h1
    cases h1
theorem gsR {n at' : Nat} {gs : List (List Nat)} (hn : 1 ≤ n) (ha : at' < n) (h : GrSpec (n + 2) (ndR n at') gs) : gs = [[n], List.range n, [n + 1]] := by
  have hto : Rch (ndR n at') at' n := .one (by unfold ndR; rw [if_pos ha, if_pos rfl]; simp)
  have hin : Rch (ndR n at') (n + 1) at' := .one (by unfold ndR; rw [if_neg (by omega), if_pos rfl]; simp)
  refine h.chain (fun g hg => ?_) (fun i hi => ?_) ?_
  · rcases List.mem_cons.1 hg with rfl | hg
    · refine ⟨List.pairwise_singleton _ _, n, by omega, by simp, fun j => ⟨fun hj => ?_, fun ⟨_, hj, _⟩ => by rw [ndR_end hj]; simp⟩⟩
      obtain rfl : j = n := by simpa using hj
      exact ⟨by omega, .refl _, .refl _⟩
    · rcases List.mem_cons.1 hg with rfl | hg
      · refine ⟨List.pairwise_lt_range, 0, by omega, List.mem_range.2 (by omega), fun j => ⟨fun hj => ?_, fun ⟨hj, h1, h2⟩ => ?_⟩⟩
        · have hj' := List.mem_range.1 hj
          exact ⟨by omega, ndR_all (by omega) hj', ndR_all hj' (by omega)⟩
        · refine List.mem_range.2 ?_
          have h3 := ndR_low ha h1 (by omega)
          by_cases e : j = n
          · subst e
            have := ndR_end h2; omega
          · omega
      · obtain rfl : g = [n + 1] := by simpa using hg
        refine ⟨List.pairwise_singleton _ _, n + 1, by omega, by simp, fun j => ⟨fun hj => ?_, fun ⟨hj, _, h2⟩ => ?_⟩⟩
        · obtain rfl : j = n + 1 := by simpa using hj
          exact ⟨by omega, .refl _, .refl _⟩
        · by_cases e : j = n + 1
          · simp [e]
          · have := ndR_low ha h2 (by omega)
            omega
  · by_cases e : i < n
    · exact ⟨List.range n, by simp, List.mem_range.2 e⟩
    · by_cases e2 : i = n
      · exact ⟨[n], by simp, by simp [e2]⟩
      · exact ⟨[n + 1], by simp, by simp; omega⟩
  · refine List.pairwise_cons.2 ⟨fun k hk => ?_, List.pairwise_cons.2 ⟨fun k hk => ?_, List.pairwise_singleton _ _⟩⟩
    · rcases List.mem_cons.1 hk with rfl | hk
      · exact ⟨⟨at', List.mem_range.2 ha, n, by simp, hto⟩, fun i hi => by simp at hi; subst hi; simp⟩
      · obtain rfl : k = [n + 1] := by simpa using hk
        exact ⟨⟨n + 1, by simp, n, by simp, hin.trans hto⟩, fun i hi => by simp at hi; subst hi; simp⟩
    · obtain rfl : k = [n + 1] := by simpa using hk
      exact ⟨⟨n + 1, by simp, at', List.mem_range.2 ha, hin⟩, fun i hi => by have := List.mem_range.1 hi; simp; omega⟩
theorem own_one (w : World) (x : Nat) {B : Nat} (hB : B ≤ w.heap.size) : OwnI B (.slice (some ⟨w.heap.size, 0, none⟩) 1 1) [x] (w.alloc (.cells #[.int .i64 (x : Int)] 3)) := by
  have := World.ownsRow_lit (base := B) (size := 1) (e := 3) w #[.int .i64 (x : Int)] 1 hB (by decide) (by simp)
  unfold OwnI
  simpa [intsV] using this
/-- A row of one number, stored. -/
theorem TB.lit {B q n r x : Nat} {rv : Nat → Value} {ls : Nat → List Nat} {w0 w : World} (h : TB B q n rv ls w) (hb : Below B w0 w) (hr : r < n) :
    TK B q n (updA ls r [x]) w0 ((w.alloc (.cells #[.int .i64 (x : Int)] 3)).setCell ⟨q, r, none⟩ (.slice (some ⟨w.heap.size, 0, none⟩) 1 1)) ∧ (w.alloc (.cells #[.int .i64 (x : Int)] 3)).cell? ⟨q, r, none⟩ = some (rv r) ∧ (w.alloc (.cells #[.int .i64 (x : Int)] 3)).frozen? ⟨q, r, none⟩ = false := by
  have hBw : B ≤ w.heap.size := by have := (h.cell hr).2.2; have := h.bb; omega
  have hk := below_allocG w (.cells #[.int .i64 (x : Int)] 3)
  obtain ⟨cs, h1, h2, h3⟩ := h.tbl
  have h1' := (hk.block q (heap_at h1)).trans h1
  exact ⟨⟨_, h.put hr (fun k hlt _ => hk.block k hlt) (.inr (Nat.le_refl _)) (own_one w x hBw), (hb.trans (hk.mono hBw)).setCell (p := ⟨q, r, none⟩) h.bb _⟩, by rw [Lib.cell_of_heap h1']; exact h3 r hr, Lib.frozen_of_heap h1' r⟩
/-- The ring's rows while they are laid. -/
def ndI (n i : Nat) : Nat → List Nat := fun k => if k < i then [(k + 1) % n] else []
theorem ndI_succ (n i : Nat) : updA (ndI n i) i [(i + 1) % n] = ndI n (i + 1) := by
  funext k
  unfold updA ndI
  by_cases e : k = i
  · subst e; simp
  · rw [if_neg e]
    by_cases h : k < i
    · rw [if_pos h, if_pos (by omega)]
    · rw [if_neg h, if_neg (by omega)]
theorem ndI_end {n at' : Nat} (ha : at' < n) : updA (updA (ndI n n) at' ([(at' + 1) % n] ++ [n])) (n + 1) [at'] = ndR n at' := by
  funext k
  unfold updA ndI ndR
  by_cases e : k = n + 1
  · rw [if_pos e, if_neg (by omega), if_pos e]
  · rw [if_neg e]
    by_cases e2 : k = at'
    · subst e2; rw [if_pos rfl, if_pos ha, if_pos rfl]; rfl
    · rw [if_neg e2]
      by_cases h : k < n
      · rw [if_pos h, if_pos h, if_neg e2]
      · rw [if_neg h, if_neg h, if_neg e]
theorem ndR_in {n at' : Nat} (hn : 1 ≤ n) (ha : at' < n) : ∀ i, i < n + 2 → ∀ x ∈ ndR n at' i, x < n + 2 := fun i hi x hx => by
  have hm : (i + 1) % n < n := Nat.mod_lt _ (by omega)
  unfold ndR at hx
  split at hx
  · split at hx
    · simp at hx; omega
    · simp at hx; omega
  · split at hx
    · simp at hx; omega
    · cases hx
theorem ndR_sum {n at' : Nat} (hn : n ≤ 100) : sumN (ndR n at') (n + 2) < 1000000000 := by
  have h1 : ∀ k, (ndR n at' k).length ≤ 2 := fun k => by
    unfold ndR
    split
    · split <;> simp
    · split <;> simp
  have h2 : ∀ i, sumN (ndR n at') i ≤ 2 * i := fun i => by
    induction i with
    | zero => exact Nat.le_refl _
    | succ i ih => rw [sumN_succ]; have := h1 i; omega
  have := h2 (n + 2); omega
set_option maxRecDepth 100000 in
set_option maxHeartbeats 8000000 in
theorem gring_law (z0 z1 : Int) (w : World) (b0 : -9223372036854775808 ≤ z0) (b0' : z0 ≤ 9223372036854775807) (b1 : -9223372036854775808 ≤ z1) (b1' : z1 ≤ 9223372036854775807) :
    Calls Try.prog 6 #[.int .i64 z0, .int .i64 z1] w fun e w' => e = .returned (.bool true) ∧ Below w.heap.size w w' := by
  have HF := Lib.hid (first_any w)
  go_enter Try.func6, Try.ntmps6
  go_wp2_with (go_at_call 7; fail)
  refine HF.out.mono ?_
  rintro e w1 ⟨rfl, hb1⟩
  have HB1 := Lib.hid hb1
  have HN1 := Lib.hid (number_anyG z0 10 w1 b0 b0' (by omega) (by omega))
  clear hb1 HF
  go_wp2_with (go_at_call 13; fail)
  refine HN1.out.mono ?_
  rintro e w1' ⟨r, hr, rfl, rfl⟩
  clear HN1
  have hN2 := number_anyG z1 (r + 2) w1 b1 b1' (by omega) (by omega)
  rw [show ((r + 2 : Nat) : Int) = (r : Int) + 2 by omega] at hN2
  have HN2 := Lib.hid hN2
  clear hN2
  go_wp2_with (go_at_call 13; fail)
  refine HN2.out.mono ?_
  rintro e w1' ⟨a, ha, rfl, rfl⟩
  clear HN2
  obtain ⟨n, hn⟩ : ∃ n, r + 2 = n := ⟨_, rfl⟩
  have hnI : (r : Int) + 2 = (n : Int) := by omega
  have hn2 : 2 ≤ n := by omega
  have hn12 : n ≤ 11 := by omega
  rw [hn] at ha
  rw [hnI]
  clear hn hr hnI
  have hmr : ∀ w : World, (Instr.makeSlice 24 (.int .i64 ((n : Int) + 2)) (.int .i64 ((n : Int) + 2))).run Try.prog w = .ok (.slice (some ⟨w.heap.size, 0, none⟩) (n + 2) (n + 2)) (w.alloc (.cells (madeCells #[.slice none 0 0] (n + 2)) 22)) := fun w => make_rows (n + 2) (n + 2) (Nat.le_refl _) (by omega) w
  obtain ⟨i0, hi, hz0, hz1, hz2⟩ := info_parts Try.infoInt0
  have hnz : ((n : Int) == 0) = false := by simp; omega
  have haI : (a : Int) < (n : Int) := by omega
  have ha0 : (0 : Int) ≤ (a : Int) := by omega
  go_wp2_with fail
  go_loopw [7] (fun vi W => ∃ i : Nat, i ≤ n ∧ vi = .int .i64 i ∧ Hid (TK w1.heap.size w1.heap.size (n + 2) (ndI n i) w1 W)) (fun vi _ => n - (RowKit.intOf vi).toNat)
  case atStart => exact ⟨0, Nat.zero_le _, rfl, Lib.hid ⟨_, TB.start w1 (Nat.le_refl _), (Below.refl _ w1).alloc (Nat.le_refl _) _⟩⟩
  case round =>
    rename World => X
    obtain ⟨i, hin, rfl, HK⟩ := hrel
    by_cases hlt : i < n
    · have hltI : (i : Int) < (n : Int) := by omega
      have hi0 : (0 : Int) ≤ (i : Int) := by omega
      obtain ⟨m, hm⟩ : ∃ m, (i + 1) % n = m := ⟨_, rfl⟩
      have hmE : ((i : Int) + 1) % (n : Int) = (m : Int) := by rw [← hm]; simp
      have hmT : ((i : Int) + 1).tmod (n : Int) = (m : Int) := by rw [Int.tmod_eq_emod_of_nonneg (by omega)]; exact hmE
      obtain ⟨rv, hT, hB⟩ := HK.out
      obtain ⟨k1, k2, k3⟩ := hT.lit (x := m) hB (show i < n + 2 by omega)
      rw [← hm, ndI_succ, hm] at k1
      obtain ⟨ra, rc, hsh⟩ := (hT.row i (by omega)).shape
      rw [hsh] at k2
      have c3 := (hT.cell (show i < n + 2 by omega)).2.2
      rw [World.setCell_alloc_past _ _ _ _ c3] at k1
      have HK2 := Lib.hid k1
      clear k1 hT hB hsh HK hm
      go_wp2_with fail
      go_roundw
      case rel => exact ⟨i + 1, by omega, by go_num, HK2⟩
      case measure => simp [RowKit.intOf]; omega
    · obtain rfl : i = n := by omega
      have hltI : ¬ (i : Int) < (i : Int) := by omega
      obtain ⟨rv, hT, hB⟩ := HK.out
      have c1 := hT.cell (show a < i + 2 by omega)
      have hls : ndI i i a = [(a + 1) % i] := by unfold ndI; rw [if_pos ha]
      have hrow := hT.row a (by omega)
      obtain ⟨ra, rc, hsh⟩ := hrow.shape
      rw [hls] at hsh hrow
      have hsh1 : rv a = .slice ra 1 rc := hsh
      have c1' := c1.1
      rw [hsh1] at c1' hrow
      have HRw := Lib.hid (fun (o : Obj) => show (X.alloc o).ownsRow w1.heap.size 3 1 (.slice ra 1 rc) 1 (intsV [(a + 1) % i]) from hrow.alloc o)
      have HAp := Lib.hid (fun (o : Obj) (w2 : World) (v' : Value) (hown : w2.ownsRow w1.heap.size 3 1 v' (1 + 1) (intsV [(a + 1) % i] ++ [.int .i64 (i : Int)])) (hg : (X.alloc o).grownBy w2 (Value.slice ra 1 rc).ownBlock) (hat : v'.ownBlock = (Value.slice ra 1 rc).ownBlock ∨ v'.ownBlock = some (X.heap.size + 1)) => show ∃ g cap, v' = .slice (some ⟨g, 0, none⟩) 2 cap ∧ TK w1.heap.size w1.heap.size (i + 2) (updA (ndI i i) a ([(a + 1) % i] ++ [i])) w1 (w2.setCell ⟨w1.heap.size, a, none⟩ (.slice (some ⟨g, 0, none⟩) 2 cap)) ∧ w2.cell? ⟨w1.heap.size, a, none⟩ = some (.slice ra 1 rc) ∧ w2.frozen? ⟨w1.heap.size, a, none⟩ = false from hT.app2 (x := i) (o := o) (m := 1) hB (show a < i + 2 by omega) hls rfl hsh1 hown hg hat)
      have HBs := hB.size
      have c4 := fun o : Obj => ((below_allocG X o).cell (p := ⟨w1.heap.size, a, none⟩) c1.2.2).trans c1'
      have c5 := c1.2.2
      clear hT hB hsh hsh1 hrow HK c1
      go_wp2_with (at_builtin; refine wpList_append_own_at _ rfl _ _ 22 rfl w1.heap.size 3 i0 (.int .i64 0) 1 8 Try.underlying22 hi hz0 hz1 hz2 rfl (by decide) _ _ _ rfl (HRw.out _) ⟨X.heap.size, 0, none⟩ 1 1 [.int .i64 (i : Int)] rfl rfl (frz_oneI _ _ _) (by simp [Value.oneCell']) ?c3 ?c4 ?c5 ?_)
      case c3 => unfold maxLen; omega
      case c5 => omega
      intro v4 W4 hown4 hgr4 _ hat4
      obtain ⟨g5, cap5, rfl, hk5, k2, k3⟩ := HAp.out _ _ _ hown4 hgr4 hat4
      obtain ⟨rv5, hT5, hB5⟩ := hk5
      obtain ⟨j1, j2, j3⟩ := hT5.lit (x := a) hB5 (show i + 1 < i + 2 by omega)
      rw [ndI_end ha] at j1
      obtain ⟨ra6, rc6, hsh6⟩ := (hT5.row (i + 1) (by omega)).shape
      rw [hsh6] at j2
      have c6 := (hT5.cell (show i + 1 < i + 2 by omega)).2.2
      rw [size_set] at j1
      obtain ⟨rv7, hT7, hB7⟩ := j1
      have hO := orderN_any (g := w1.heap.size) (n := i + 2) (cap := i + 2) _ hT7.rows (by omega) (by omega) (Nat.le_refl _) (ndR_in (by omega) ha) (ndR_sum (by omega))
      rw [show ((i + 2 : Nat) : Int) = (i : Int) + 2 by omega] at hO
      have HO := Lib.hid hO
      have HB7 := Lib.hid hB7
      clear hO hT7 hB7
      clear hown4 hgr4 hat4 HAp HRw c4 c1' hT5 hB5 hsh6
      go_wp2_with (go_at_call 9; fail)
      refine HO.out.mono ?_
      rintro e w8 ⟨⟨tv, gs, rfl, hsp, hgs⟩, hb8⟩
      have hge := gsR (by omega) ha hsp
      subst hge
      obtain ⟨q, cap, rfl, hq, hql, hrows⟩ := hgs.at (Nat.zero_lt_succ _)
      obtain ⟨a0, c0, y0, r0⟩ := hrows 0 (Nat.zero_lt_succ _)
      obtain ⟨a1, c1, y1, r1⟩ := hrows 1 (by simp)
      obtain ⟨a2, c2, y2, r2⟩ := hrows 2 (by simp)
      simp only [List.length_cons, List.length_nil, List.getD_eq_getElem?_getD, List.getElem?_cons_zero, List.getElem?_cons_succ, Option.getD_some, List.length_range] at y0 y1 y2 r0 r1 r2 ⊢
      obtain ⟨g0, o0, rfl, u0⟩ := RowQ.one r0
      obtain ⟨g2, o2, rfl, u2⟩ := RowQ.one r2
      obtain ⟨g1, o1, rfl, _, u1⟩ := RowQ.at r1 (by simp; omega)
      have HB8 := Lib.hid (show Below w.heap.size w w8 from HB1.out.trans ((HB7.out.trans (hb8.mono HB7.out.size)).mono HB1.out.size))
      have HU := Lib.hid u1
      rw [show ((i + 1 : Nat) : Int) = (i : Int) + 1 by omega] at u2
      clear hsp hgs hrows r0 r1 r2 hb8 HO HB7 u1 k2 k3 j2 j3 hq c6 c5
      go_wp2_with fail
      go_loopw [9] (fun vk W => ∃ k : Nat, k ≤ i ∧ vk = .int .i64 k ∧ W = w8) (fun vk _ => i - (RowKit.intOf vk).toNat)
      case atStart => exact ⟨0, Nat.zero_le _, rfl, rfl⟩
      case round =>
        obtain ⟨k, hki, rfl, rfl⟩ := hrel
        by_cases hk : k < i
        · have hkI : (k : Int) < (i : Int) := by omega
          have hk0 : (0 : Int) ≤ (k : Int) := by omega
          have u1 := HU.out k (by simpa using hk)
          rw [show (List.range i).getD k 0 = k by simp [List.getD, hk]] at u1
          go_wp2_with fail
          go_roundw
          case rel => exact ⟨k + 1, by omega, by go_num, trivial⟩
          case measure => simp [RowKit.intOf]; omega
        · obtain rfl : k = i := by omega
          have hkI : ¬ (k : Int) < (k : Int) := by omega
          go_wp2
          go_ret
          exact ⟨rfl, HB8.out⟩
end Go.Proofs.Ytlpifioneafciaa
