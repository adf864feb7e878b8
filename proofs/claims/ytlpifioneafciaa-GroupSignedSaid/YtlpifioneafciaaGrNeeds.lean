/- The law's own needs: numbers as needs of n. -/
import Derived.Test.YtlpifioneafciaaGrRingL
namespace Go.Proofs.Ytlpifioneafciaa
open Go.RowKit Go.Maps Go.Lib
attribute [local go_sem] Oper.semAt_some

def kOf (n : Nat) (z : Int) : Nat := ((z.tmod n + n).tmod n).toNat
def mOf (n : Nat) (z : Int) : Nat := (((z.tdiv n).tmod n + n).tmod n).toNat
def stepN (n : Nat) (ls : Nat → List Nat) (z : Int) : Nat → List Nat := updA ls (kOf n z) (ls (kOf n z) ++ [mOf n z])
def ndOf (n : Nat) (zs : List Int) : Nat → List Nat := zs.foldl (stepN n) (fun _ => [])
theorem kOf_eq {n : Nat} (hn : 0 < n) (z : Int) : (z.tmod n + n).tmod n = (kOf n z : Int) ∧ (z.tmod n + n) % n = (kOf n z : Int) ∧ kOf n z < n := by
  have k1 := Int.tmod_lt_of_pos z (show (0 : Int) < (n : Int) by omega)
  have k2 := Int.lt_tmod_of_pos z (show (0 : Int) < (n : Int) by omega)
  have k3 := Int.tmod_lt_of_pos (z.tmod n + n) (show (0 : Int) < (n : Int) by omega)
  have k4 := Int.tmod_nonneg (n : Int) (show 0 ≤ z.tmod n + n by omega)
  have e := Int.tmod_eq_emod_of_nonneg (a := z.tmod n + n) (b := (n : Int)) (by omega)
  unfold kOf
  refine ⟨by omega, by omega, by omega⟩
theorem mOf_eq {n : Nat} (hn : 0 < n) (z : Int) : ((z.tdiv n).tmod n + n).tmod n = (mOf n z : Int) ∧ ((z.tdiv n).tmod n + n) % n = (mOf n z : Int) ∧ mOf n z < n := kOf_eq hn (z.tdiv n)
theorem tdiv_fits {n : Nat} (hn : 0 < n) {z : Int} (h1 : -9223372036854775808 ≤ z) (h2 : z ≤ 9223372036854775807) : -9223372036854775808 ≤ z.tdiv n ∧ z.tdiv n ≤ 9223372036854775807 := by
  by_cases hz : 0 ≤ z
  · have a1 := Int.tdiv_nonneg hz (show (0 : Int) ≤ (n : Int) by omega)
    have a2 := Int.natAbs_tdiv z (n : Int)
    have a3 : z.natAbs.div (n : Int).natAbs ≤ z.natAbs := Nat.div_le_self z.natAbs (n : Int).natAbs
    omega
  · have a1 := Int.tdiv_nonneg (show 0 ≤ -z by omega) (show (0 : Int) ≤ (n : Int) by omega)
    rw [Int.neg_tdiv] at a1
    have a2 := Int.natAbs_tdiv z (n : Int)
    have a3 : z.natAbs.div (n : Int).natAbs ≤ z.natAbs := Nat.div_le_self z.natAbs (n : Int).natAbs
    omega
theorem ndOf_snoc (n : Nat) (zs : List Int) (i : Nat) (h : i < zs.length) : ndOf n (zs.take (i + 1)) = stepN n (ndOf n (zs.take i)) (zs.getD i 0) := by
  unfold ndOf
  rw [List.take_succ_eq_append_getElem h, List.foldl_append]
  simp [List.getD, h]
theorem ndOf_in {n : Nat} (hn : 0 < n) (zs : List Int) : ∀ r, ∀ x ∈ ndOf n zs r, x < n := by
  have : ∀ (zs : List Int) (ls : Nat → List Nat), (∀ r, ∀ x ∈ ls r, x < n) → ∀ r, ∀ x ∈ zs.foldl (stepN n) ls r, x < n := fun zs => by
    induction zs with
    | nil => exact fun _ h => h
    | cons z zs ih =>
      intro ls h
      refine ih _ fun r x hx => ?_
      unfold stepN updA at hx
      split at hx
      · rcases List.mem_append.1 hx with h1 | h1
        · exact h _ x h1
        · obtain rfl : x = mOf n z := by simpa using h1
          exact (mOf_eq hn z).2.2
      · exact h r x hx
  exact this zs _ fun r x hx => (List.not_mem_nil hx).elim
theorem sumN_app {n k x : Nat} (ls : Nat → List Nat) (hk : k < n) : sumN (updA ls k (ls k ++ [x])) n = sumN ls n + 1 := by
  unfold sumN
  exact sum_at List.nodup_range (x := k) (List.mem_range.2 hk) (by rw [updA_same]; simp) fun r _ hr => by rw [updA_ne ls _ hr]
theorem sumN_none (n : Nat) : sumN (fun _ => []) n = 0 := by
  unfold sumN
  exact sum_zero.2 fun r _ => rfl
theorem ndOf_sum {n : Nat} (hn : 0 < n) (zs : List Int) : sumN (ndOf n zs) n = zs.length := by
  have : ∀ (zs : List Int) (ls : Nat → List Nat), sumN (zs.foldl (stepN n) ls) n = sumN ls n + zs.length := fun zs => by
    induction zs with
    | nil => exact fun _ => rfl
    | cons z zs ih =>
      intro ls
      rw [List.foldl_cons, ih]
      unfold stepN
      rw [sumN_app _ (kOf_eq hn z).2.2, List.length_cons]
      omega
  have h := this zs (fun _ => [])
  rw [sumN_none] at h
  unfold ndOf
  omega
theorem len_le_sum {nd : Nat → List Nat} {n k : Nat} (hk : k < n) : (nd k).length ≤ sumN nd n := by
  have h1 := sumN_succ nd k
  have h2 := sumN_le nd (show k + 1 ≤ n by omega)
  omega
/-- Numbers that came in. -/
def IntsL (B : Nat) (a : Option Addr) (zs : List Int) (w : World) : Prop := zs = [] ∨ ∃ g o, a = some ⟨g, o, none⟩ ∧ g < B ∧ ∀ i, i < zs.length → w.cell? ⟨g, o + i, none⟩ = some (.int .i64 (zs.getD i 0)) ∧ -9223372036854775808 ≤ zs.getD i 0 ∧ zs.getD i 0 ≤ 9223372036854775807
theorem IntsL.keep {B : Nat} {a : Option Addr} {zs : List Int} {w w' : World} (h : IntsL B a zs w) (hb : Below B w w') : IntsL B a zs w' := by
  rcases h with h | ⟨g, o, e, hg, hc⟩
  · exact .inl h
  · exact .inr ⟨g, o, e, hg, fun i hi => ⟨(World.cell?_of_block (a := ⟨g, o + i, none⟩) (hb.block g hg)).trans (hc i hi).1, (hc i hi).2⟩⟩
theorem IntsL.mono {B B' : Nat} {a : Option Addr} {zs : List Int} {w : World} (h : IntsL B a zs w) (hb : B ≤ B') : IntsL B' a zs w := by
  rcases h with h | ⟨g, o, e, hg, hc⟩
  · exact .inl h
  · exact .inr ⟨g, o, e, by omega, hc⟩
theorem IntsL.at {B : Nat} {a : Option Addr} {zs : List Int} {w : World} (h : IntsL B a zs w) {i : Nat} (hi : i < zs.length) : ∃ g o, a = some ⟨g, o, none⟩ ∧ w.cell? ⟨g, o + i, none⟩ = some (.int .i64 (zs.getD i 0)) ∧ -9223372036854775808 ≤ zs.getD i 0 ∧ zs.getD i 0 ≤ 9223372036854775807 := by
  rcases h with h | ⟨g, o, e, hg, hc⟩
  · rw [h] at hi; cases hi
  · exact ⟨g, o, e, hc i hi⟩
theorem TB.none {B q : Nat} {rv : Nat → Value} {ls ls' : Nat → List Nat} {w : World} (h : TB B q 0 rv ls w) : TB B q 0 rv ls' w := ⟨h.tbl, fun i hi => by omega, fun i j hi => by omega, h.bb⟩
set_option maxRecDepth 100000 in
set_option maxHeartbeats 8000000 in
theorem needs_any {a : Option Addr} {zs : List Int} {cap n : Nat} (w : World) (h : IntsL w.heap.size a zs w) (hl : zs.length ≤ 1000) (hn : n ≤ 1000) :
    Calls Try.prog 8 #[.slice a zs.length cap, .int .i64 (n : Int)] w fun e w' => e = .returned (.slice (some ⟨w.heap.size, 0, none⟩) n n) ∧ TK w.heap.size w.heap.size n (ndOf n zs) w w' := by
  have hmr := fun w => make_rows n n (Nat.le_refl _) (by omega) w
  have H0 := Lib.hid h
  obtain ⟨i0, hi, hz0, hz1, hz2⟩ := info_parts Try.infoInt0
  obtain ⟨L, hL⟩ : ∃ L, zs.length = L := ⟨_, rfl⟩
  have HL := Lib.hid hL
  rw [hL] at hl ⊢
  clear h hL
  go_enter Try.func8, Try.ntmps8
  go_wp2_with fail
  go_loopw [6] (fun vi W => ∃ i : Nat, i ≤ L ∧ vi = .int .i64 i ∧ Hid (TK w.heap.size w.heap.size n (ndOf n (zs.take i)) w W)) (fun vi _ => L - (RowKit.intOf vi).toNat)
  case atStart => exact ⟨0, Nat.zero_le _, rfl, Lib.hid ⟨_, TB.start w (Nat.le_refl _), (Below.refl _ w).alloc (Nat.le_refl _) _⟩⟩
  case round =>
    rename World => X
    obtain ⟨i, hiL, rfl, HK⟩ := hrel
    by_cases hlt : i < L
    · have hltI : (i : Int) < (L : Int) := by omega
      have hi0 : (0 : Int) ≤ (i : Int) := by omega
      by_cases hn0 : n = 0
      · subst hn0
        have HK2 := Lib.hid (show TK w.heap.size w.heap.size 0 (ndOf 0 zs) w X from by obtain ⟨rv, h1, h2⟩ := HK.out; exact ⟨rv, h1.none, h2⟩)
        clear HK
        go_wp2
        go_ret
        exact ⟨rfl, HK2.out⟩
      · have hnp : 0 < n := by omega
        have hnI : (n : Int) > 0 := by omega
        have hnJ : (0 : Int) < (n : Int) := by omega
        have hnz : ((n : Int) == 0) = false := by simp; omega
        obtain ⟨rv, hT, hB⟩ := HK.out
        obtain ⟨g, o, rfl, hc, hb1, hb2⟩ := (H0.out.keep hB).at (show i < zs.length by rw [HL.out]; exact hlt)
        obtain ⟨z, hz⟩ : ∃ z, zs.getD i 0 = z := ⟨_, rfl⟩
        rw [hz] at hc hb1 hb2
        have hsn := ndOf_snoc n zs i (by rw [HL.out]; exact hlt)
        rw [hz] at hsn
        obtain ⟨k1, k2, k3⟩ := kOf_eq hnp z
        obtain ⟨m1, m2, m3⟩ := mOf_eq hnp z
        obtain ⟨q1, hq1⟩ : ∃ q1, z.tmod (n : Int) = q1 := ⟨_, rfl⟩
        have b1 := Int.tmod_lt_of_pos z hnJ
        have b2 := Int.lt_tmod_of_pos z hnJ
        obtain ⟨f1, f2⟩ := tdiv_fits hnp hb1 hb2
        obtain ⟨q2, hq2⟩ : ∃ q2, z.tdiv (n : Int) = q2 := ⟨_, rfl⟩
        rw [hq2] at f1 f2 m1 m2
        have b3 := Int.tmod_lt_of_pos q2 hnJ
        have b4 := Int.lt_tmod_of_pos q2 hnJ
        obtain ⟨q3, hq3⟩ : ∃ q3, q2.tmod (n : Int) = q3 := ⟨_, rfl⟩
        rw [hq1] at k1 k2 b1 b2
        rw [hq3] at m1 m2 b3 b4
        unfold stepN at hsn
        obtain ⟨k, hk⟩ : ∃ k, kOf n z = k := ⟨_, rfl⟩
        obtain ⟨m, hm⟩ : ∃ m, mOf n z = m := ⟨_, rfl⟩
        rw [hk] at k1 k2 k3 hsn
        rw [hm] at m1 m2 m3 hsn
        have hkI : (k : Int) < (n : Int) := by omega
        have hk0 : (0 : Int) ≤ (k : Int) := by omega
        obtain ⟨c1, c2, c3⟩ := hT.cell k3
        have hrow := hT.row k k3
        obtain ⟨ra, rc, hsh⟩ := hrow.shape
        obtain ⟨lr, hlr⟩ : ∃ lr, ndOf n (zs.take i) k = lr := ⟨_, rfl⟩
        obtain ⟨j, hj⟩ : ∃ j, lr.length = j := ⟨_, rfl⟩
        have hjb : j ≤ 1000 := by
          have h1 := len_le_sum (nd := ndOf n (zs.take i)) k3
          rw [ndOf_sum hnp, hlr, hj, List.length_take] at h1
          omega
        rw [hlr] at hsh hrow hsn
        rw [hj] at hsh
        rw [hsh] at c1 hrow
        have HRw := Lib.hid (fun (o : Obj) => show (X.alloc o).ownsRow w.heap.size 3 1 (.slice ra j rc) j (intsV lr) from by have := hrow.alloc o; unfold OwnI at this; rwa [hj] at this)
        have HAp := Lib.hid (fun (o : Obj) (w2 : World) (v' : Value) (hown : w2.ownsRow w.heap.size 3 1 v' (j + 1) (intsV lr ++ [.int .i64 (m : Int)])) (hg : (X.alloc o).grownBy w2 (Value.slice ra j rc).ownBlock) (hat : v'.ownBlock = (Value.slice ra j rc).ownBlock ∨ v'.ownBlock = some (X.heap.size + 1)) => show ∃ g cap, v' = .slice (some ⟨g, 0, none⟩) (j + 1) cap ∧ Hid (TK w.heap.size w.heap.size n (ndOf n (zs.take (i + 1))) w (w2.setCell ⟨w.heap.size, k, none⟩ (.slice (some ⟨g, 0, none⟩) (j + 1) cap))) ∧ w2.cell? ⟨w.heap.size, k, none⟩ = some (.slice ra j rc) ∧ w2.frozen? ⟨w.heap.size, k, none⟩ = false from by
          obtain ⟨g5, c5, e5, h5, h6⟩ := hT.app2 (x := m) (o := o) (m := j) hB k3 hlr hj hsh hown hg hat
          exact ⟨g5, c5, e5, Lib.hid (by rw [hsn]; exact h5), h6⟩)
        have HBs := hB.size
        have c4 := fun o : Obj => ((below_allocG X o).cell (p := ⟨w.heap.size, k, none⟩) c3).trans c1
        clear hT hB hrow hsh hlr hj hsn hk hm hz HK hn0
        go_wp2_with (at_builtin; refine wpList_append_own_at _ rfl _ _ 22 rfl w.heap.size 3 i0 (.int .i64 0) 1 8 Try.underlying22 hi hz0 hz1 hz2 rfl (by decide) _ _ _ rfl (HRw.out _) ⟨X.heap.size, 0, none⟩ 1 1 [.int .i64 (m : Int)] rfl rfl (frz_oneI _ _ _) (by simp [Value.oneCell']) ?c3 ?c4 ?c5 ?_)
        case c3 => unfold maxLen; omega
        case c4 => omega
        case c5 => simp; omega
        intro v4 W4 hown4 hgr4 _ hat4
        obtain ⟨g5, cap5, rfl, HK5, k2, k3⟩ := HAp.out _ _ _ hown4 hgr4 hat4
        clear hown4 hgr4 hat4 HAp HRw c4 c1 c2 c3
        go_wp2_with fail
        go_roundw
        case rel => exact ⟨i + 1, by omega, by go_num, HK5⟩
        case measure => simp [RowKit.intOf]; omega
    · obtain rfl : i = L := by omega
      have hltI : ¬ (i : Int) < (i : Int) := by omega
      have HK2 := Lib.hid (show TK w.heap.size w.heap.size n (ndOf n zs) w X from by have h1 := HK.out; rwa [← HL.out, List.take_length] at h1)
      clear HK
      go_wp2
      go_ret
      exact ⟨rfl, HK2.out⟩
end Go.Proofs.Ytlpifioneafciaa
