/- group.Order of needs that are all inside. -/
import Derived.Test.YtlpifioneafciaaGrTB
namespace Go.Proofs.Ytlpifioneafciaa
open Go.RowKit Go.Maps Go.Lib
attribute [local go_sem] Oper.semAt_some

/-- The groups in memory: rows of a row of one's own, in blocks from B on. -/
def GsR (B : Nat) (tv : Value) (gs : List (List Nat)) (w : World) : Prop := ∃ vs : List Value, w.ownsRow B 22 1 tv gs.length vs ∧ vs.length = gs.length ∧ ∀ i, i < gs.length → RowQ (fun k => B ≤ k) (vs.getD i .nilIface) (gs.getD i []) w
theorem RowQ.mono {ok ok' : Nat → Prop} {v : Value} {l : List Nat} {w : World} (h : RowQ ok v l w) (hk : ∀ k, ok k → ok' k) : RowQ ok' v l w := by
  rcases h with h | ⟨g, o, cap, e, hl, hg, r⟩
  · exact .inl h
  · exact .inr ⟨g, o, cap, e, hl, hk g hg, r⟩
theorem GsR.of {B B0 : Nat} {ok : Nat → Prop} {tv : Value} {ms : Nat → List Nat} {tl : List Nat} {w : World} (h : TolR B0 ok tv ms tl w) (hB : B ≤ B0) (hk : ∀ k, ok k → B ≤ k) : GsR B tv (tl.map ms) w := by
  obtain ⟨vs, h1, h2, h3⟩ := h
  refine ⟨vs, ⟨by rw [List.length_map]; exact h1.1, ?_⟩, by rw [List.length_map]; exact h2, fun i hi => ?_⟩
  · rw [List.length_map]
    rcases h1.2 with e | ⟨q, cap, cur, rfl, hb, r⟩
    · exact .inl e
    · exact .inr ⟨q, cap, cur, rfl, by omega, r⟩
  · rw [List.length_map] at hi
    have e : (tl.map ms).getD i [] = ms (tl.getD i 0) := by simp [List.getD, hi]
    rw [e]
    exact (h3 i hi).mono hk
theorem RowN.mono {B B' : Nat} {v : Value} {l : List Nat} {w : World} (h : RowN B v l w) (hB : B ≤ B') : RowN B' v l w := by
  rcases h with h | ⟨g, o, cap, e, hl, hg, r⟩
  · exact .inl h
  · exact .inr ⟨g, o, cap, e, hl, by omega, r⟩
/-- What is there while a table grows. -/
def TK (B q n : Nat) (ls : Nat → List Nat) (w0 W : World) : Prop := ∃ rv, TB B q n rv ls W ∧ Below B w0 W
theorem TB.app2 {B q n r x m : Nat} {rv : Nat → Value} {ls : Nat → List Nat} {l : List Nat} {w0 w w1 : World} {v v' : Value} {o : Obj} (h : TB B q n rv ls w) (hb : Below B w0 w) (hr : r < n) (hl : ls r = l) (hm : l.length = m) (hv : rv r = v) (hown : w1.ownsRow B 3 1 v' (m + 1) (intsV l ++ [.int .i64 (x : Int)])) (hg : (w.alloc o).grownBy w1 v.ownBlock) (hat : v'.ownBlock = v.ownBlock ∨ v'.ownBlock = some (w.heap.size + 1)) :
    ∃ g cap, v' = .slice (some ⟨g, 0, none⟩) (m + 1) cap ∧ TK B q n (updA ls r (l ++ [x])) w0 (w1.setCell ⟨q, r, none⟩ (.slice (some ⟨g, 0, none⟩) (m + 1) cap)) ∧ w1.cell? ⟨q, r, none⟩ = some v ∧ w1.frozen? ⟨q, r, none⟩ = false := by
  subst hl hm hv
  obtain ⟨g, cap, e, h1, h2, h3, h4⟩ := h.app hb hr hown hg hat
  exact ⟨g, cap, e, ⟨_, h1, h2⟩, h3, h4⟩
theorem updA_updA {α : Type} (f : Nat → α) (r : Nat) (a b : α) : updA (updA f r a) r b = updA f r b := by
  funext i
  unfold updA
  by_cases e : i = r
  · rw [if_pos e, if_pos e]
  · rw [if_neg e, if_neg e, if_neg e]
def inL (nd : Nat → List Nat) (i : Nat) : Nat → List Nat := fun k => if k < i then nd k else []
theorem inL_succ (nd : Nat → List Nat) (i : Nat) : updA (inL nd i) i (nd i) = inL nd (i + 1) := by
  funext k
  unfold updA inL
  by_cases e : k = i
  · subst e; simp
  · rw [if_neg e]
    by_cases h : k < i
    · rw [if_pos h, if_pos (by omega)]
    · rw [if_neg h, if_neg (by omega)]
theorem inL_zero (nd : Nat → List Nat) (i : Nat) : updA (inL nd i) i [] = inL nd i := by
  funext k
  unfold updA
  by_cases e : k = i
  · subst e; simp [inL]
  · rw [if_neg e]
set_option maxRecDepth 100000 in
set_option maxHeartbeats 8000000 in
theorem orderN_any {g n cap : Nat} {nd : Nat → List Nat} (w : World) (h : RowsAt w.heap.size g n nd w) (h0 : 0 < n) (hn : n < 100000000) (hc : n ≤ cap) (hne : ∀ i, i < n → ∀ x ∈ nd i, x < n) (hL : sumN nd n < 1000000000) :
    Calls Try.prog 9 #[.int .i64 (n : Int), .slice (some ⟨g, 0, none⟩) n cap] w fun e w' => (∃ (tv : Value) (gs : List (List Nat)), e = .returned tv ∧ GrSpec n nd gs ∧ GsR w.heap.size tv gs w') ∧ Below w.heap.size w w' := by
  have hmr := fun w => make_rows n n (Nat.le_refl _) (by omega) w
  have H0 := Lib.hid h
  have HNE := Lib.hid hne
  have HL := Lib.hid hL
  obtain ⟨i0, hi, hz0, hz1, hz2⟩ := info_parts Try.infoInt0
  have hnI1 : ¬ (n : Int) ≤ 0 := by omega
  have hnI2 : ¬ (n : Int) > 2147483647 := by omega
  have hnI3 : ¬ (2147483647 : Int) < (n : Int) := by omega
  clear h hne hL
  go_enter Try.func9, Try.ntmps9
  go_wp2_with fail
  go_loopw [25] (fun vi W => ∃ (i : Nat), i ≤ n ∧ vi = .int .i64 i ∧ Hid (TK w.heap.size w.heap.size n (inL nd i) w W)) (fun vi _ => n - (RowKit.intOf vi).toNat)
  case atStart => exact ⟨0, Nat.zero_le _, rfl, Lib.hid ⟨_, TB.start w (Nat.le_refl _), (Below.refl _ w).alloc (Nat.le_refl _) _⟩⟩
  case round =>
    rename World => X1
    obtain ⟨i, hin, rfl, HK0⟩ := hrel
    by_cases hlt : i < n
    · have hltI : (i : Int) < (n : Int) := by omega
      have hi0I : (0 : Int) ≤ (i : Int) := by omega
      have hnl : (nd i).length < 1000000000 := by
        have h1 := sumN_succ nd i
        have h2 := sumN_le nd (show i + 1 ≤ n by omega)
        have := HL.out
        omega
      obtain ⟨nL, hnLe⟩ : ∃ nL, nd i = nL := ⟨_, rfl⟩
      have HNL := Lib.hid hnLe
      have HNI := Lib.hid (fun x (hx : x ∈ nL) => HNE.out i hlt x (hnLe ▸ hx))
      obtain ⟨ncs, nfz, ng, nsz, nrow⟩ := H0.out
      obtain ⟨nv, nv1, nvr⟩ := nrow i hlt
      rw [hnLe] at nvr hnl
      obtain ⟨na, nc, rfl⟩ := nvr.shape
      have hB2 := HK0.out.choose_spec.2
      have ng2 := (hB2.block g (heap_at ng)).trans ng
      have y1 : X1.cell? ⟨g, i, none⟩ = some (.slice na nL.length nc) := by rw [Lib.cell_of_heap ng2]; exact nv1
      have HNR := Lib.hid nvr
      obtain ⟨nn, hnn⟩ : ∃ nn, nL.length = nn := ⟨_, rfl⟩
      rw [hnn] at y1 hnl
      have HNN := Lib.hid hnn
      have HKs := Lib.hid (show TK w.heap.size w.heap.size n (updA (inL nd i) i (nL.take 0)) w X1 by rw [List.take_zero, inL_zero]; exact HK0.out)
      clear ng ng2 nrow nv1 nvr hB2 hnn hnLe nsz HK0
      go_wp2_with fail
      go_loopw [32] (fun vj W => ∃ (j : Nat), j ≤ nn ∧ vj = .int .i64 j ∧ Hid (TK w.heap.size w.heap.size n (updA (inL nd i) i (nL.take j)) w W)) (fun vj _ => nn - (RowKit.intOf vj).toNat)
      case atStart => exact ⟨0, Nat.zero_le _, rfl, HKs⟩
      case round =>
        clear y1 HKs X1
        rename World => X1
        obtain ⟨j, hjn, rfl, HK5⟩ := hrel
        by_cases hj : j < nn
        · have hjI : (j : Int) < (nn : Int) := by omega
          have hj0I : (0 : Int) ≤ (j : Int) := by omega
          obtain ⟨rv, hT1, hB1⟩ := HK5.out
          have hjL : j < nL.length := by rw [HNN.out]; exact hj
          have nr5 : RowN w.heap.size (.slice na nL.length nc) nL X1 := HNR.out.below fun k hk => hB1.block k hk
          obtain ⟨ng, no, rfl, nc5⟩ := nr5.cellAt hjL
          obtain ⟨x, hx⟩ : ∃ x, nL.getD j 0 = x := ⟨_, rfl⟩
          rw [hx] at nc5
          have hxm : x ∈ nL := by rw [← hx]; simp [List.getD, hjL]
          have hxN : x < n := HNI.out x hxm
          have hxI : (x : Int) < (n : Int) := by omega
          have hx0 : (0 : Int) ≤ (x : Int) := by omega
          have hx1 : (x : Int) ≥ 0 := by omega
          have hTK : nL.take (j + 1) = nL.take j ++ [x] := by rw [List.take_succ_eq_append_getElem hjL]; simp [← hx, List.getD, hjL]
          have HTK := Lib.hid hTK
          obtain ⟨c1, c2, c3⟩ := hT1.cell hlt
          have hrow := hT1.row i hlt
          obtain ⟨ra, rc, hsh⟩ := hrow.shape
          have hls : updA (inL nd i) i (nL.take j) i = nL.take j := updA_same ..
          rw [hls] at hrow hsh
          have hm : (nL.take j).length = j := by rw [List.length_take]; omega
          rw [hm] at hsh
          rw [hsh] at c1 hrow
          have HRw := Lib.hid (fun (o : Obj) => show (X1.alloc o).ownsRow w.heap.size 3 1 (.slice ra j rc) j (intsV (nL.take j)) from by have := hrow.alloc o; unfold OwnI at this; rwa [hm] at this)
          have HAp := Lib.hid (fun (o : Obj) (w1 : World) (v' : Value) (hown : w1.ownsRow w.heap.size 3 1 v' (j + 1) (intsV (nL.take j) ++ [.int .i64 (x : Int)])) (hg : (X1.alloc o).grownBy w1 (Value.slice ra j rc).ownBlock) (hat : v'.ownBlock = (Value.slice ra j rc).ownBlock ∨ v'.ownBlock = some (X1.heap.size + 1)) => show ∃ g cap, v' = .slice (some ⟨g, 0, none⟩) (j + 1) cap ∧ TK w.heap.size w.heap.size n (updA (inL nd i) i (nL.take (j + 1))) w (w1.setCell ⟨w.heap.size, i, none⟩ (.slice (some ⟨g, 0, none⟩) (j + 1) cap)) ∧ w1.cell? ⟨w.heap.size, i, none⟩ = some (.slice ra j rc) ∧ w1.frozen? ⟨w.heap.size, i, none⟩ = false by
            have h9 := hT1.app2 (x := x) (o := o) hB1 hlt hls hm hsh hown hg hat
            rw [updA_updA] at h9
            rw [HTK.out]; exact h9)
          have HBs := hB1.size
          have c4 := fun o : Obj => ((below_allocG X1 o).cell (p := ⟨w.heap.size, i, none⟩) c3).trans c1
          have HSH := Lib.hid hsh
          clear hT1 hB1 hx hxm nr5 hjL hTK hrow hsh hm HK5
          go_wp2_with (at_builtin; refine wpList_append_own_at _ rfl _ _ 22 rfl w.heap.size 3 i0 (.int .i64 0) 1 8 Try.underlying22 hi hz0 hz1 hz2 rfl (by decide) _ _ _ rfl (HRw.out _) ⟨X1.heap.size, 0, none⟩ 1 1 [.int .i64 (x : Int)] rfl rfl (frz_oneI _ _ _) (by simp [Value.oneCell']) ?c3 ?c4 ?c5 ?_)
          case c3 => unfold maxLen; omega
          case c4 => omega
          case c5 => simp; omega
          intro v4 W4 hown4 hgr4 _ hat4
          obtain ⟨g5, cap5, rfl, hk5, k2, k3⟩ := HAp.out _ _ _ hown4 hgr4 hat4
          have HK6 := Lib.hid hk5
          clear hown4 hgr4 hat4 hk5 c1 c2 c3 c4 HAp
          go_wp2_with fail
          go_roundw
          case rel => exact ⟨j + 1, by omega, by go_num, HK6⟩
          case measure => simp [RowKit.intOf]; omega
        · obtain rfl : j = nn := by omega
          have hjI : ¬ (j : Int) < (j : Int) := by omega
          have HK6 := Lib.hid (show TK w.heap.size w.heap.size n (inL nd (i + 1)) w X1 by have h1 := HK5.out; rwa [← HNN.out, List.take_length, ← HNL.out, inL_succ] at h1)
          clear HK5
          go_wp2_with fail
          go_roundw
          case rel => exact ⟨i + 1, by omega, by go_num, HK6⟩
          case measure => simp [RowKit.intOf]; omega
    · obtain rfl : i = n := by omega
      have hltI : ¬ (i : Int) < (i : Int) := by omega
      obtain ⟨rv, hT, hB⟩ := HK0.out
      have hin' : ∀ k, k < i → inL nd i k = nd k := fun k hk => by unfold inL; rw [if_pos hk]
      have hsum : sumN (inL nd i) i = sumN nd i := by
        unfold sumN
        congr 1
        exact List.map_congr_left fun k hk => by rw [hin' k (List.mem_range.1 hk)]
      have hne2 : ∀ k, k < i → ∀ x ∈ inL nd i k, x < i := fun k hk x hx => HNE.out k hk x (hin' k hk ▸ hx)
      have HO := Lib.hid (order_any (n := i) (cap := i) X1 hT.rows (Nat.zero_le _) hn hne2 (by show sumN (inL nd i) i < _; rw [hsum]; exact HL.out))
      have HBX := Lib.hid hB
      have HN2 := Lib.hid (And.intro hin' hne2)
      clear hT hB hsum HK0 hin' hne2
      go_wp2_with (go_at_call 14; fail)
      refine HO.out.mono ?_
      rintro e w5 ⟨⟨tv, dn, t, B0, ok, rfl, hra, hgr, hno, htl, hB0, hok⟩, hb5⟩
      have hsp := (spec_of (by unfold grTop; omega) HN2.out.2 hra hgr hno).congr HNE.out HN2.out.1
      have HG := Lib.hid (GsR.of (B := w.heap.size) htl (Nat.le_trans HBX.out.size hB0) fun k hk => Nat.le_trans HBX.out.size (hok k hk))
      have HS := Lib.hid hsp
      have HB5 := Lib.hid (HBX.out.trans (hb5.mono HBX.out.size))
      clear hra hgr hno htl hsp hb5 HO
      go_wp2
      go_ret
      exact ⟨⟨tv, _, rfl, HS.out, HG.out⟩, HB5.out⟩
end Go.Proofs.Ytlpifioneafciaa
