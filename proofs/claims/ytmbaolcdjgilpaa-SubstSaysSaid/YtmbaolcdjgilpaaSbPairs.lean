/- The law's pairs, made of numbers. -/
import Derived.Test.YtmbaolcdjgilpaaSbOthersA
namespace Go.Proofs.Ytmbaolcdjgilpaa
open Go.RowKit Go.Sort Go.Lib
attribute [local go_sem] Oper.semAt_some

theorem Try.infoRefPair : (Try.prog.info? 47).map (fun i => (i.zero, i.size, i.bytes)) = some (some (.agg zeroP), 4, 64) := by kernel_rfl
/-- The cells of a row of pairs. -/
def cellsP (d : List PR) : List Value := d.flatMap encP
theorem cellsP_snoc (d : List PR) (x : PR) : cellsP (d ++ [x]) = cellsP d ++ encP x := by simp [cellsP]
theorem cellsP_len : ∀ d : List PR, (cellsP d).length = d.length * 4
  | [] => rfl
  | x :: d => by
    have := cellsP_len d
    simp only [cellsP, List.flatMap_cons, List.length_append, encP_len, List.length_cons] at this ⊢
    omega
theorem cellsP_at (d : List PR) (i j : Nat) (hi : i < d.length) (hj : j < 4) : (cellsP d)[i * 4 + j]? = (encP (d.getD i noP))[j]? := by
  induction d generalizing i with
  | nil => cases hi
  | cons a r ih =>
    cases i with
    | zero =>
      have : (encP a ++ cellsP r)[j]? = (encP a)[j]? := List.getElem?_append_left (by rw [encP_len]; omega)
      simpa [cellsP] using this
    | succ i =>
      have e : (i + 1) * 4 + j = (encP a).length + (i * 4 + j) := by rw [encP_len]; omega
      have h1 : (encP a ++ cellsP r)[(encP a).length + (i * 4 + j)]? = (cellsP r)[i * 4 + j]? := by rw [List.getElem?_append_right (by omega)]; congr 1; omega
      have h2 := ih i (by simpa using hi)
      rw [e]
      simpa [cellsP, List.getD] using h1.trans h2
/-- As RowP, whatever the row's type is. -/
def RowG (T : TypeId) (g : Nat) (l : List PR) (w : World) : Prop :=
  ∃ cs, w.heap[g]? = some (.cells cs T (0, 0)) ∧ l.length * 4 ≤ cs.size ∧ ∀ i, i < l.length →
    cs[i * 4]? = some (.string (l.getD i noP).n) ∧ cs[i * 4 + 1]? = some (.int .i64 (l.getD i noP).t.kind) ∧ cs[i * 4 + 2]? = some (.string (l.getD i noP).t.name) ∧ cs[i * 4 + 3]? = some (.slice (l.getD i noP).a (l.getD i noP).t.kids.length (l.getD i noP).c)
theorem RowG.row {g : Nat} {l : List PR} {w : World} (h : RowG 58 g l w) : RowP g l w := h
/-- A list of pairs as the law makes it. -/
def GivenG (T : TypeId) (v : Value) (d : List PR) (w : World) : Prop := (d = [] ∧ v = .slice none 0 0) ∨ (d ≠ [] ∧ ∃ g cap, v = .slice (some ⟨g, 0, none⟩) d.length cap ∧ RowG T g d w)
theorem given_of_row {T : TypeId} {W : World} {base : Nat} {v : Value} {d : List PR} (h : W.ownsRow base T 4 v d.length (cellsP d)) (h0 : d = [] → v = .slice none 0 0) : GivenG T v d W := by
  by_cases hd : d = []
  · exact .inl ⟨hd, h0 hd⟩
  · rcases h.2 with ⟨rfl, hn0⟩ | ⟨g, cap, cur, rfl, _, hg, hc, hm, hcs, htk⟩
    · exact absurd (List.length_eq_zero_iff.1 hn0) hd
    · refine .inr ⟨hd, g, cap, rfl, cur, hg, by rw [hcs]; exact Nat.mul_le_mul_right 4 hc, fun i hi => ?_⟩
      have cell : ∀ j, j < 4 → cur[i * 4 + j]? = (encP (d.getD i noP))[j]? := fun j hj => by
        have hlt : i * 4 + j < d.length * 4 := by omega
        rw [← cellsP_at d i j hi hj, ← htk, List.getElem?_take, if_pos hlt, Array.getElem?_toList]
      exact ⟨(cell 0 (by omega)).trans rfl, (cell 1 (by omega)).trans rfl, (cell 2 (by omega)).trans rfl, (cell 3 (by omega)).trans rfl⟩
theorem own_keep {w w' : World} {p base : Nat} {e : TypeId} {size : Nat} {v : Value} {n : Nat} {xs : List Value} (h : w.ownsRow base e size v n xs) (hk : ∀ k o, w.heap[k]? = some o → k ≠ p → w'.heap[k]? = some o) (hp : p < base) : w'.ownsRow base e size v n xs := by
  refine ⟨h.1, ?_⟩
  rcases h.2 with h | ⟨g, cap, cur, rfl, hb, hg, r⟩
  · exact .inl h
  · exact .inr ⟨g, cap, cur, rfl, hb, hk g _ hg (by omega), r⟩
theorem KeepT.grown {W W' : World} {base : Nat} {e : TypeId} {size : Nat} {v : Value} {n : Nat} {xs : List Value} (hg : W.grownBy W' v.ownBlock) (h : W.ownsRow base e size v n xs) (he : e ≠ 34) : KeepT W W' := by
  intro k cs fz hk
  refine (hg.block k (Array.getElem?_eq_some_iff.1 hk).1 fun ee => ?_).trans hk
  rcases h.2 with ⟨rfl, _⟩ | ⟨g, cap, cur, rfl, _, hgb, _⟩
  · cases ee
  · obtain rfl : k = g := by simpa [Value.ownBlock] using ee
    rw [hk] at hgb
    cases hgb
    exact he rfl
theorem row_val {W : World} {base : Nat} {e : TypeId} {size : Nat} {v : Value} {n : Nat} {xs : List Value} (h : W.ownsRow base e size v n xs) : ∃ a c, v = .slice a n c := by
  rcases h.2 with ⟨rfl, rfl⟩ | ⟨g, cap, _, rfl, _⟩
  · exact ⟨_, _, rfl⟩
  · exact ⟨_, _, rfl⟩
theorem cell_new4 (w : World) (x y z u : Value) (t : TypeId) : ∀ j v, [x, y, z, u][j]? = some v → (w.alloc (.cells #[x, y, z, u] t)).cell? ((⟨w.heap.size, 0, none⟩ : Addr).add j) = some v := by
  intro j v hv
  have hadd : (⟨w.heap.size, 0, none⟩ : Addr).add j = ⟨w.heap.size, j, none⟩ := by unfold Addr.add; split <;> simp_all
  rw [hadd]
  have := alloc_new w (.cells #[x, y, z, u] t)
  simp only [World.cell?, this]
  match j, hv with
  | 0, hv => simpa using hv
  | 1, hv => simpa using hv
  | 2, hv => simpa using hv
  | 3, hv => simpa using hv
  | n + 4, hv => simp at hv

theorem rows_apart {W : World} {b1 b2 : Nat} {e1 e2 : TypeId} {s1 s2 n1 n2 : Nat} {v1 v2 : Value} {x1 x2 : List Value} (h1 : W.ownsRow b1 e1 s1 v1 n1 x1) (h2 : W.ownsRow b2 e2 s2 v2 n2 x2) (he : e1 ≠ e2) : v1.ownBlock = none ∨ v1.ownBlock ≠ v2.ownBlock := by
  rcases h1.2 with ⟨rfl, _⟩ | ⟨g, cap, cur, rfl, _, hg, _⟩
  · exact .inl rfl
  · refine .inr fun e => ?_
    rcases h2.2 with ⟨rfl, _⟩ | ⟨g', cap', cur', rfl, _, hg', _⟩
    · cases e
    · obtain rfl : g = g' := by simpa [Value.ownBlock] using e
      rw [hg] at hg'
      cases hg'
      exact he rfl
theorem cell_new4' (w : World) (o : Obj) (x y z u : Value) (t : TypeId) : ∀ j v, [x, y, z, u][j]? = some v → ((w.alloc o).alloc (.cells #[x, y, z, u] t)).cell? ((⟨w.heap.size + 1, 0, none⟩ : Addr).add j) = some v := by
  have := cell_new4 (w.alloc o) x y z u t
  simpa using this
/-- What the law's pairs hand back. -/
def MadeL (B p : Nat) (a : Option Addr) (n c k : Nat) (w : World) (e : Ending) (w' : World) : Prop :=
  (∃ d v u, e = .returned (.tuple #[v, u]) ∧ (d.length ≤ 4 ∧ ∀ x ∈ d, T.Good x.t ∧ Fits x.t ∧ (T.text x.t).length + 10 ≤ 56) ∧ (GivenG 58 v d w' ∧ GivenG 47 u d w') ∧ Typ d w') ∧ (∃ k', k' ≤ k + 40 ∧ SeqAt B p a n c k' w') ∧ MkFr B p w w'
theorem four_at {w : World} {b : Nat} {x y z u : ByteArray} {T : TypeId} {fz : Nat × Nat} (h : w.heap[b]? = some (.cells #[.string x, .string y, .string z, .string u] T fz)) (r : Nat) (hr : r < 4) : ∃ s : ByteArray, w.cell? ⟨b, r, none⟩ = some (.string s) := by
  rw [Lib.cell_of_heap h]
  match r, hr with
  | 0, _ => exact ⟨x, rfl⟩
  | 1, _ => exact ⟨y, rfl⟩
  | 2, _ => exact ⟨z, rfl⟩
  | 3, _ => exact ⟨u, rfl⟩
  | n + 4, hr => omega

set_option maxHeartbeats 4000000 in
theorem pairs_any (B p : Nat) (a : Option Addr) (n c k : Nat) (w : World) (h : SeqAt B p a n c k w) (hk : k < 900000000000000000) (hn : n < 1152921504606846976) :
    Calls Try.prog 8 #[.pointer (some ⟨p, 0, none⟩)] w (MadeL B p a n c k w) := by
  have hp := h.lt
  obtain ⟨i0, hi, hz0, hz1, hz2⟩ := info_parts Try.infoPair
  obtain ⟨i1, hi1, hy0, hy1, hy2⟩ := info_parts Try.infoRefPair
  have HN := Lib.hid (next_any B p a n c k 5 w h (by decide) (by decide) (by omega) hn)
  have HB := Lib.hid h.1.1
  clear h
  go_enter Try.func8, Try.ntmps8
  go_wp2_with (go_at_call 25; refine HN.out.mono ?_)
  rintro e W1 ⟨⟨r, hr, rfl⟩, h1, h2⟩
  have H1 := Lib.hid h1; have H2 := Lib.hid h2
  clear h1 h2
  go_wp2_with fail
  go_loopw [4, 5, 6] (fun vl vm vi wr => ∃ (q : List PR) (i k' : Nat), vi = .int .i64 i ∧ i + q.length ≤ 4 ∧ Hid ((wr.ownsRow w.heap.size 58 4 vl q.length (cellsP q) ∧ (q = [] → vl = .slice none 0 0)) ∧ (wr.ownsRow w.heap.size 47 4 vm q.length (cellsP q) ∧ (q = [] → vm = .slice none 0 0))) ∧ Hid (Typ q wr) ∧ Hid (∀ x ∈ q, T.Good x.t ∧ Fits x.t ∧ (T.text x.t).length + 10 ≤ 56) ∧ Hid (k' ≤ k + 1 + 9 * q.length ∧ SeqAt B p a n c k' wr) ∧ Hid (MkFr B p w wr)) (fun _ _ vi _ => (intOf vi).toNat)
  case atStart => exact ⟨[], r, k + 1, rfl, by simp; omega, Lib.hid ⟨⟨World.ownsRow_nil _ _ _ _, fun _ => rfl⟩, World.ownsRow_nil _ _ _ _, fun _ => rfl⟩, Lib.hid (fun x hx => by cases hx), Lib.hid (fun x hx => by cases hx), Lib.hid ⟨by simp, H1.out⟩, Lib.hid H2.out⟩
  case round =>
    obtain ⟨q, i, k', rfl, hq3, hrow, hty, hgd, hsq, hfr⟩ := hrel
    by_cases hpos : 0 < i
    · have hposI : (0 : Int) < (i : Int) := by omega
      have hBw : B ≤ w.heap.size := by have := HB.out; omega
      have hszr : w.heap.size ≤ wr.heap.size := hfr.out.1.size
      have HN2 := Lib.hid (fun o => next_any B p a n c k' 4 (wr.alloc o) (hsq.out.2.below ((Below.refl _ wr).alloc (Nat.le_refl _) o)) (by decide) (by decide) (by have := hsq.out.1; omega) hn)
      go_wp2_with (go_at_call 25; refine (HN2.out _).mono ?_)
      rintro e W2 ⟨⟨r2, hr2, rfl⟩, hs2, hf2⟩
      have hnb := hf2.2 _ _ (alloc_new wr _) (by have := hsq.out.2.lt; omega)
      obtain ⟨nm, hnm⟩ := four_at hnb r2 hr2
      have hfa := (MkFr.of_below (p := p) ((Below.refl _ wr).alloc (Nat.le_refl _) (.cells #[.string ⟨#[97]⟩, .string ⟨#[98]⟩, .string ⟨#[99]⟩, .string ⟨#[100]⟩] 9)) (Nat.le_trans hBw hszr)).trans hf2
      have HF2 := Lib.hid (hfr.out.trans hfa)
      have HS2 := Lib.hid hs2
      have HR2 := Lib.hid (And.intro (own_keep hrow.out.1.1 hfa.2 hp) (own_keep hrow.out.2.1 hfa.2 hp))
      have HTY2 := Lib.hid (hty.out.keep (KeepT.of_mk hfa hsq.out.2))
      have hr2z : (r2 : Int) < 4 := by omega
      clear hnb hs2 hf2 hfa HN2
      go_wp2_with (go_at_call 9; refine (make_type2 B p a n c (k' + 1) _ HS2.out (by have := hsq.out.1; omega) hn).mono ?_)
      rintro e W3 ⟨⟨t, u, rfl, hg, hu⟩, ⟨k3, hk3, hs3⟩, hf3⟩
      obtain ⟨a2, n2, rfl⟩ := hu.shape
      have HF3 := Lib.hid (HF2.out.trans hf3)
      have HS3 := Lib.hid hs3; have HU := Lib.hid hu; have HG := Lib.hid hg
      have HR3 := Lib.hid (And.intro (own_keep HR2.out.1 hf3.2 hp) (own_keep HR2.out.2 hf3.2 hp))
      have HTY3 := Lib.hid (HTY2.out.keep (KeepT.of_mk hf3 HS2.out))
      have HKq := Lib.hid hk3
      clear hs3 hu hg hf3 hk3 HR2 HTY2 HS2 HF2 hnm
      simp only [tyV]
      have hsz3 : w.heap.size ≤ W3.heap.size := HF3.out.1.size
      obtain ⟨x, hx⟩ : ∃ x : PR, x = ⟨nm, t, a2, n2⟩ := ⟨_, rfl⟩
      have hxn : x.n = nm := by rw [hx]
      have hxt : x.t = t := by rw [hx]
      go_wp2_with (at_builtin; refine wpList_append_own _ rfl _ _ 28 rfl w.heap.size 58 i0 (.agg zeroP) 4 64 Try.underlying28 hi hz0 hz1 hz2 rfl (by decide) _ _ _ rfl ((HR3.out.1.alloc _).alloc _) ⟨W3.heap.size + 1, 0, none⟩ 1 1 [.string nm, .int .i64 t.kind, .string t.name, .slice a2 t.kids.length n2] rfl rfl (cell_new4' _ _ _ _ _ _ _) (by simp [Value.oneCell']) ?c3 ?c4 ?c5 ?_)
      case c3 => unfold maxLen; omega
      case c4 => omega
      case c5 => simp; omega
      intro v4 W4 hown4 hgrow4 hnn4
      have hkt4 : KeepT W3 W4 := ((keepT_alloc W3 _).trans (keepT_alloc _ _)).trans (KeepT.grown hgrow4 ((HR3.out.1.alloc _).alloc _) (by decide))
      have hbelB4 : Below B W3 W4 := (((Below.refl B W3).alloc (Nat.le_trans hBw hsz3) _).alloc (by simp; omega) _).grown hgrow4 (by simp; omega) (fun j hj => Nat.le_trans hBw (HR3.out.1.lt j hj).1)
      have hblk4 : ∀ j o, W3.heap[j]? = some o → j < w.heap.size → W4.heap[j]? = some o := fun j o hj hlt =>
        (hgrow4.block j (by simp; omega) (fun e => by have := (HR3.out.1.lt j e.symm).1; omega)).trans ((Below.heap_alloc _ _ j (by simp; omega)).trans ((Below.heap_alloc W3 _ j (by omega)).trans hj))
      have hbx4 : W4.heap[W3.heap.size]? = some (.cells #[.int .i64 t.kind, .string t.name, .slice a2 t.kids.length n2] 34 (0, 0)) :=
        (hgrow4.block _ (by simp; omega) (fun e => by have := (HR3.out.1.lt _ e.symm).2; omega)).trans ((Below.heap_alloc _ _ _ (by simp)).trans (alloc_new W3 _))
      have HR4 := Lib.hid (((HR3.out.2.alloc _).alloc _).kept hgrow4 (rows_apart HR3.out.2 HR3.out.1 (by decide)))
      have HO4 := Lib.hid hown4
      have HKt4 := Lib.hid hkt4
      have HBl4 := Lib.hid hbelB4
      have HBk4 := Lib.hid hblk4
      have hsz4 : w.heap.size ≤ W4.heap.size := by have := hgrow4.size; simp at this; omega
      obtain ⟨z0, z1, z2⟩ := three_cells hbx4
      have lz := (Array.getElem?_eq_some_iff.1 hbx4).1
      clear hkt4 hbelB4 hblk4 hbx4 hown4 hgrow4
      go_wp2_with (at_builtin; refine wpList_append_own _ rfl _ _ 29 rfl w.heap.size 47 i1 (.agg zeroP) 4 64 Try.underlying29 hi1 hy0 hy1 hy2 rfl (by decide) _ _ _ rfl (HR4.out.alloc _) ⟨W4.heap.size, 0, none⟩ 1 1 [.string nm, .int .i64 t.kind, .string t.name, .slice a2 t.kids.length n2] rfl rfl (cell_new4 _ _ _ _ _ _) (by simp [Value.oneCell']) ?c3 ?c4 ?c5 ?_)
      case c3 => unfold maxLen; omega
      case c4 => omega
      case c5 => simp; omega
      intro v5 W5 hown5 hgrow5 hnn5
      have hkt : KeepT W3 W5 := (HKt4.out.trans (keepT_alloc W4 _)).trans (KeepT.grown hgrow5 (HR4.out.alloc _) (by decide))
      have hbelB : Below B W3 W5 := HBl4.out.trans (((Below.refl B W4).alloc (Nat.le_trans hBw hsz4) _).grown hgrow5 (by simp; omega) (fun j hj => Nat.le_trans hBw (HR4.out.lt j hj).1))
      have hblk : ∀ j o, W3.heap[j]? = some o → j < w.heap.size → W5.heap[j]? = some o := fun j o hj hlt =>
        (hgrow5.block j (by simp; omega) (fun e => by have := (HR4.out.lt j e.symm).1; omega)).trans ((Below.heap_alloc W4 _ j (by omega)).trans (HBk4.out j o hj hlt))
      have HS5 := Lib.hid (show SeqAt B p a n c k3 W5 from ⟨⟨HB.out, hblk p _ HS3.out.1.2 hp⟩, HS3.out.2.keep hbelB⟩)
      have HF5 := Lib.hid (show MkFr B p w W5 from ⟨HF3.out.1.trans hbelB, fun j o hj hjp => hblk j o (HF3.out.2 j o hj hjp) (Array.getElem?_eq_some_iff.1 hj).1⟩)
      have HT5 := Lib.hid (HTY3.out.keep hkt)
      have HX5 := Lib.hid (HU.out.keep hkt)
      have HO5 := Lib.hid hown5
      have HL5 := Lib.hid ((HO4.out.alloc _).kept hgrow5 (rows_apart HO4.out HR4.out (by decide)))
      clear hkt hbelB hblk hown5 hgrow5 z0 z1 z2
      go_wp2
      go_roundw
      case rel =>
        refine ⟨q ++ [x], i - 1, k3, congrArg (Value.int .i64) (by omega), by simp; omega, Lib.hid ⟨⟨?_, fun e => by simp at e⟩, ?_, fun e => by simp at e⟩, Lib.hid ?_, Lib.hid ?_, Lib.hid ⟨?_, HS5.out⟩, HF5⟩
        · rw [cellsP_snoc, List.length_append, hx]; exact HL5.out
        · rw [cellsP_snoc, List.length_append, hx]; exact HO5.out
        · intro y hy
          rcases List.mem_append.1 hy with hy | hy
          · exact HT5.out y hy
          · obtain rfl := List.mem_singleton.1 hy
            rw [hx]; exact HX5.out
        · intro y hy
          rcases List.mem_append.1 hy with hy | hy
          · exact hgd.out y hy
          · obtain rfl := List.mem_singleton.1 hy
            rw [hx]; exact HG.out
        · have h1 := HKq.out; have h2 := hsq.out.1
          rw [List.length_append, List.length_singleton]; omega
      case measure => simp [intOf]; omega
    · obtain rfl : i = 0 := by omega
      have h1 := given_of_row hrow.out.1.1 hrow.out.1.2
      have h2 := given_of_row hrow.out.2.1 hrow.out.2.2
      have hk9 := hsq.out.1
      go_wp2
      go_ret2
      exact ⟨⟨q, u4, u5, rfl, ⟨by omega, hgd.out⟩, ⟨h1, h2⟩, hty.out⟩, ⟨k', by omega, hsq.out.2⟩, hfr.out⟩
end Go.Proofs.Ytmbaolcdjgilpaa
