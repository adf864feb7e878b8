/- The rows of predicates that are made of numbers. -/
import Derived.Test.YtlfbmbbfcijedaaMakePred
namespace Go.Proofs.Ytlfbmbbfcijedaa
open Go.RowKit
attribute [local go_sem] Oper.semAt_some

theorem Try.infoPred : (Try.prog.info? 42).map (fun i => (i.zero, i.size, i.bytes)) = some (some (.agg #[.string ⟨#[]⟩, .int .i64 0, .string ⟨#[]⟩, .slice none 0 0]), 4, 64) := by kernel_rfl

def prCells (x : Pr × Value) : List Value := [.string x.1.1, .int .i64 x.1.2.kind, .string x.1.2.name, x.2]
def prRow (q : List (Pr × Value)) : List Value := q.flatMap prCells
theorem prRow_snoc (q : List (Pr × Value)) (x : Pr × Value) : prRow (q ++ [x]) = prRow q ++ prCells x := by simp [prRow]
theorem prRow_at (q : List (Pr × Value)) (i j : Nat) (hi : i < q.length) (hj : j < 4) : (prRow q)[i * 4 + j]? = (prCells q[i])[j]? := by
  induction q generalizing i with
  | nil => cases hi
  | cons a r ih =>
    cases i with
    | zero =>
      have : (prCells a ++ prRow r)[j]? = (prCells a)[j]? := List.getElem?_append_left (by simp [prCells]; omega)
      simpa [prRow] using this
    | succ i =>
      have e : (i + 1) * 4 + j = (prCells a).length + (i * 4 + j) := by simp [prCells]; omega
      have h1 : (prCells a ++ prRow r)[(prCells a).length + (i * 4 + j)]? = (prRow r)[i * 4 + j]? := by rw [List.getElem?_append_right (by omega)]; congr 1; omega
      have h2 := ih i (by simpa using hi)
      rw [e]
      simpa [prRow] using h1.trans h2
theorem prs_of_row {W : World} {base : Nat} {v : Value} {q : List (Pr × Value)} (h : W.ownsRow base 42 4 v q.length (prRow q)) (hq : ∀ x ∈ q, TysAt W x.2 x.1.2.kids) : PrsAt W v (q.map (·.1)) := by
  rcases h.2 with ⟨rfl, h0⟩ | ⟨g, cap, cur, rfl, _, hg, hc, hm, hcs, htk⟩
  · have : q = [] := List.length_eq_zero_iff.1 h0
    subst this
    exact .inl ⟨rfl, none, 0, rfl⟩
  · refine .inr ⟨g, cap, cur, _, fun i => (q[i]?.map (·.2)).getD undef, by simp, hg, by simpa using hc, fun i hi => ?_⟩
    have hi' : i < q.length := by simpa using hi
    have cell : ∀ j, j < 4 → cur[i * 4 + j]? = (prCells q[i])[j]? := fun j hj => by
      have hlt : i * 4 + j < q.length * 4 := by omega
      rw [← prRow_at q i j hi' hj, ← htk, List.getElem?_take, if_pos hlt, Array.getElem?_toList]
    have e : (q.map (·.1))[i] = q[i].1 := by simp
    rw [e]
    refine ⟨⟨(cell 0 (by omega)).trans rfl, (cell 1 (by omega)).trans rfl, (cell 2 (by omega)).trans rfl, (cell 3 (by omega)).trans ?_⟩, ?_⟩
    · simp [prCells, hi']
    · simpa [hi'] using hq q[i] (List.getElem_mem hi')
theorem own_keep {w w' : World} {p base : Nat} {e : TypeId} {size : Nat} {v : Value} {n : Nat} {xs : List Value} (h : w.ownsRow base e size v n xs) (hk : ∀ k o, w.heap[k]? = some o → k ≠ p → w'.heap[k]? = some o) (hp : p < base) : w'.ownsRow base e size v n xs := by
  refine ⟨h.1, ?_⟩
  rcases h.2 with h | ⟨g, cap, cur, rfl, hb, hg, r⟩
  · exact .inl h
  · exact .inr ⟨g, cap, cur, rfl, hb, hk g _ hg (by omega), r⟩
theorem KeepT.grown {W W' : World} {base : Nat} {e : TypeId} {size : Nat} {v : Value} {n : Nat} {xs : List Value} (hg : W.grownBy W' v.ownBlock) (h : W.ownsRow base e size v n xs) (he : e ≠ 29) : KeepT W W' := by
  intro k cs fz hk
  refine (hg.block k (Array.getElem?_eq_some_iff.1 hk).1 fun ee => ?_).trans hk
  rcases h.2 with ⟨rfl, _⟩ | ⟨g, cap, cur, rfl, _, hgb, _⟩
  · cases ee
  · obtain rfl : k = g := by simpa [Value.ownBlock] using ee
    rw [hk] at hgb
    cases hgb
    exact he rfl
theorem row_val {W : World} {base : Nat} {e : TypeId} {size : Nat} {v : Value} {n : Nat} {xs : List Value} (h : W.ownsRow base e size v n xs) : ∃ a c, v = .slice a n c := by
  rcases h.2 with ⟨rfl, rfl⟩ | ⟨g, cap, _, rfl, _⟩
  · exact ⟨_, _, rfl⟩
  · exact ⟨_, _, rfl⟩
theorem cell_new4 (w : World) (x y z u : Value) (t : TypeId) : ∀ j v, [x, y, z, u][j]? = some v → (w.alloc (.cells #[x, y, z, u] t)).cell? ((⟨w.heap.size, 0, none⟩ : Addr).add j) = some v := by
  intro j v hv
  have hadd : (⟨w.heap.size, 0, none⟩ : Addr).add j = ⟨w.heap.size, j, none⟩ := by unfold Addr.add; split <;> simp_all
  rw [hadd]
  have := alloc_new w (.cells #[x, y, z, u] t)
  simp only [World.cell?, this]
  match j, hv with
  | 0, hv => simpa using hv
  | 1, hv => simpa using hv
  | 2, hv => simpa using hv
  | 3, hv => simpa using hv
  | n + 4, hv => simp at hv

def MadePs (B p : Nat) (a : Option Addr) (n c k : Nat) (w : World) (e : Ending) (w' : World) : Prop :=
  (∃ l v, e = .returned v ∧ (l.length ≤ 3 ∧ ∀ q ∈ l, GoodP q ∧ Fits q.2 ∧ (prText q).length ≤ 20) ∧ PrsAt w' v l) ∧ (∃ k', k' ≤ k + 20 ∧ SeqAt B p a n c k' w') ∧ MkFr B p w w'

set_option maxHeartbeats 4000000 in
theorem make_preds (B p : Nat) (a : Option Addr) (n c k : Nat) (w : World) (h : SeqAt B p a n c k w) (hk : k < 900000000000000000) (hn : n < 1152921504606846976) :
    Calls Try.prog 16 #[.pointer (some ⟨p, 0, none⟩), .int .i64 3, .int .i64 0] w (MadePs B p a n c k w) := by
  have hp := h.lt
  obtain ⟨i0, hi, hz0, hz1, hz2⟩ := info_parts Try.infoPred
  have HN := Lib.hid (next_any B p a n c k 4 w h (by decide) (by decide) (by omega) hn)
  have HB := Lib.hid h.1.1
  clear h
  go_enter Try.func16, Try.ntmps16
  go_wp2_with (go_at_call 12; refine HN.out.mono ?_)
  rintro e W1 ⟨⟨r, hr, rfl⟩, h1, h2⟩
  have H1 := Lib.hid h1; have H2 := Lib.hid h2
  clear h1 h2
  go_wp2_with fail
  go_loopw [7, 8] (fun vl vi wr => ∃ (q : List (Pr × Value)) (i k' : Nat), vi = .int .i64 i ∧ i + q.length ≤ 3 ∧ Hid (wr.ownsRow w.heap.size 42 4 vl q.length (prRow q)) ∧ Hid (∀ x ∈ q, TysAt wr x.2 x.1.2.kids) ∧ Hid (∀ x ∈ q, GoodP x.1 ∧ Fits x.1.2 ∧ (prText x.1).length ≤ 20) ∧ Hid (k' ≤ k + 1 + 2 * q.length ∧ SeqAt B p a n c k' wr) ∧ Hid (MkFr B p w wr)) (fun _ vi _ => (intOf vi).toNat)
  case atStart => exact ⟨[], r, k + 1, rfl, by simp; omega, Lib.hid (World.ownsRow_nil _ _ _ _), Lib.hid (fun x hx => by cases hx), Lib.hid (fun x hx => by cases hx), Lib.hid ⟨by simp, H1.out⟩, Lib.hid H2.out⟩
  case round =>
    obtain ⟨q, i, k', rfl, hq3, hrow, hty, hgd, hsq, hfr⟩ := hrel
    by_cases hpos : 0 < i
    · have hposI : (0 : Int) < (i : Int) := by omega
      go_wp2_with (go_at_call 25; refine (make_pred B p a n c k' _ hsq.out.2 (by have := hsq.out.1; omega) hn).mono ?_)
      rintro e W2 ⟨⟨x, u, rfl, hg, hu⟩, ⟨k2, hk2, hs2⟩, hf2⟩
      obtain ⟨a2, n2, rfl⟩ := hu.shape
      have hrow2 := own_keep hrow.out hf2.2 hp
      have HF2 := Lib.hid (hfr.out.trans hf2)
      have HS2 := Lib.hid hs2; have HU := Lib.hid hu; have HG := Lib.hid hg; have HR2 := Lib.hid hrow2
      have HTY2 := Lib.hid (fun y hy => (hty.out y hy).keep (KeepT.of_mk hf2 hsq.out.2))
      have HKq := Lib.hid hk2
      clear hrow2 hs2 hu hg hf2 hk2
      simp only [prV]
      go_wp2_with (at_builtin; refine wpList_append_own _ rfl _ _ 32 rfl w.heap.size 42 i0 (.agg #[.string ⟨#[]⟩, .int .i64 0, .string ⟨#[]⟩, .slice none 0 0]) 4 64 Try.underlying32 hi hz0 hz1 hz2 rfl (by decide) _ _ _ rfl (HR2.out.alloc _) ⟨W2.heap.size, 0, none⟩ 1 1 (prCells (x, .slice a2 x.2.kids.length n2)) rfl rfl (cell_new4 _ _ _ _ _ _) (by simp [prCells, Value.oneCell']) ?c3 ?c4 ?c5 ?_)
      case c3 => unfold maxLen; omega
      case c4 => omega
      case c5 => have := HF2.out.1.size; simp; omega
      intro v' W3 hown3 hgrow _
      have hkt : KeepT W2 W3 := (keepT_alloc W2 _).trans (KeepT.grown hgrow (HR2.out.alloc _) (by decide))
      have hsz : w.heap.size ≤ W2.heap.size := HF2.out.1.size
      have hBw : B ≤ w.heap.size := by have := HB.out; omega
      have hbelB : Below B W2 W3 := ((Below.refl B W2).alloc (Nat.le_trans hBw hsz) _).grown hgrow (by simp; omega) (fun j hj => Nat.le_trans hBw (HR2.out.lt j hj).1)
      have hblk : ∀ j o, W2.heap[j]? = some o → j < w.heap.size → W3.heap[j]? = some o := fun j o hj hlt =>
        (hgrow.block j (by simp; omega) (fun e => by have := (HR2.out.lt j e.symm).1; omega)).trans ((Below.heap_alloc W2 _ j (by omega)).trans hj)
      have HS3 := Lib.hid (show SeqAt B p a n c k2 W3 from ⟨⟨HB.out, hblk p _ HS2.out.1.2 hp⟩, HS2.out.2.keep hbelB⟩)
      have HF3 := Lib.hid (show MkFr B p w W3 from ⟨HF2.out.1.trans hbelB, fun j o hj hjp => hblk j o (HF2.out.2 j o hj hjp) (Array.getElem?_eq_some_iff.1 hj).1⟩)
      have HT3 := Lib.hid (fun y hy => (HTY2.out y hy).keep hkt)
      have HX3 := Lib.hid (HU.out.keep hkt)
      have HO3 := Lib.hid hown3
      clear hkt hbelB hblk hown3 hgrow
      go_wp2
      go_roundw
      case rel =>
        refine ⟨q ++ [(x, .slice a2 x.2.kids.length n2)], i - 1, k2, congrArg (Value.int .i64) (by omega), by simp; omega, Lib.hid ?_, Lib.hid ?_, Lib.hid ?_, Lib.hid ⟨?_, HS3.out⟩, HF3⟩
        · rw [prRow_snoc, List.length_append]; exact HO3.out
        · intro y hy
          rcases List.mem_append.1 hy with hy | hy
          · exact HT3.out y hy
          · obtain rfl := List.mem_singleton.1 hy
            exact HX3.out
        · intro y hy
          rcases List.mem_append.1 hy with hy | hy
          · exact hgd.out y hy
          · obtain rfl := List.mem_singleton.1 hy
            exact HG.out
        · have h1 := HKq.out; have h2 := hsq.out.1
          rw [List.length_append, List.length_singleton]; omega
      case measure => simp [intOf]; omega
    · obtain rfl : i = 0 := by omega
      obtain ⟨va, vc, rfl⟩ := row_val hrow.out
      go_wp2
      go_ret
      have h2 := hsq.out.1
      refine ⟨⟨q.map (·.1), .slice va q.length vc, rfl, ⟨by simp; omega, fun y hy => ?_⟩, prs_of_row hrow.out hty.out⟩, ⟨k', by omega, hsq.out.2⟩, hfr.out⟩
      obtain ⟨z, hz, rfl⟩ := List.mem_map.1 hy
      exact hgd.out z hz
end Go.Proofs.Ytlfbmbbfcijedaa
