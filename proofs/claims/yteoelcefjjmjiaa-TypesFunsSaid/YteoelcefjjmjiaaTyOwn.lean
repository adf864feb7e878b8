/- types.own: a copy of a type in memory of its own. -/
import Derived.Test.YteoelcefjjmjiaaTyMem
namespace Go.Proofs.Yteoelcefjjmjiaa
open Go.RowKit
attribute [local go_sem] Oper.semAt_some

theorem Try.infoTy : (Try.prog.info? 29).map (fun i => (i.zero, i.size, i.bytes)) = some (some (.agg #[.int .i64 0, .string ⟨#[]⟩, .slice none 0 0]), 3, 48) := by kernel_rfl
def zeros (n : Nat) : Array Value := madeCells #[.int .i64 0, .string ⟨#[]⟩, .slice none 0 0] (n * 3)
theorem make_row3 (n : Nat) (hn : n ≤ 1000000000) (w : World) :
    (Instr.makeSlice 27 (.int .i64 (n : Int)) (.int .i64 (n : Int))).run Try.prog w = .ok (.slice (some ⟨w.heap.size, 0, none⟩) n n) (w.alloc (.cells (zeros n) 29)) := by
  obtain ⟨i, hi, hzz⟩ := Option.map_eq_some_iff.1 Try.infoTy
  simp only [Prod.mk.injEq] at hzz
  obtain ⟨hz, hs, hb⟩ := hzz
  have hr := run_make (P := Try.prog) w 27 29 i _ Try.underlying27 hi hz .i64 .i64 n n (by omega) (Int.le_refl _) (by rw [hb]; omega) (by omega)
  simp only [Int.toNat_natCast, hs] at hr
  exact hr

/-- The row of the copies, the first i of them made. -/
def RowTo (N G : Nat) (l : List T) (i : Nat) (w : World) : Prop :=
  ∃ cs, ∃ z : Nat → Value, w.heap[G]? = some (.cells cs 29 (0, 0)) ∧ cs.size = l.length * 3 ∧
    ∀ j (h : j < l.length), j < i → (cs[j * 3]? = some (.int .i64 l[j].kind) ∧ cs[j * 3 + 1]? = some (.string l[j].name) ∧ cs[j * 3 + 2]? = some (z j)) ∧ TyIn (fun k => (N ≤ k ∧ k ≠ G) ∧ k < w.heap.size) w l[j] (z j)
theorem RowTo.below {N G : Nat} {l : List T} {i : Nat} {w w' : World} (h : RowTo N G l i w) (hb : Below w.heap.size w w') : RowTo N G l i w' := by
  obtain ⟨cs, z, h1, h2, h3⟩ := h
  refine ⟨cs, z, (hb.block G (Array.getElem?_eq_some_iff.1 h1).1).trans h1, h2, fun j hj hi => ⟨(h3 j hj hi).1, ?_⟩⟩
  exact ((h3 j hj hi).2.keep (fun k _ _ hk hh => (hb.block k hk.2).trans hh)).mono (fun k hk => ⟨hk.1, Nat.lt_of_lt_of_le hk.2 hb.size⟩)
/-- Three stores: the next copy is laid into the row. -/
theorem RowTo.next {N G : Nat} {l : List T} {i : Nat} {w : World} (h : RowTo N G l i w) (hi : i < l.length) {v : Value} (hv : TyIn (fun k => (N ≤ k ∧ k ≠ G) ∧ k < w.heap.size) w l[i] v) :
    RowTo N G l (i + 1) (((w.setCell ⟨G, i * 3, none⟩ (.int .i64 l[i].kind)).setCell ⟨G, i * 3 + 1, none⟩ (.string l[i].name)).setCell ⟨G, i * 3 + 2, none⟩ v) := by
  obtain ⟨cs, z, h1, h2, h3⟩ := h
  have hsz : ∀ (W : World) (a : Addr) (x : Value), (W.setCell a x).heap.size = W.heap.size := fun W a x => by simp [World.setCell]
  have hset : ∀ {W : World} {o : Nat} {cs : Array Value} (v : Value), W.heap[G]? = some (.cells cs 29 (0, 0)) → (W.setCell ⟨G, o, none⟩ v).heap[G]? = some (.cells (cs.setIfInBounds o v) 29 (0, 0)) := fun {W o cs} v h => by
    obtain ⟨hlt, hk⟩ := Array.getElem?_eq_some_iff.1 h
    show (W.heap.modify G _)[G]? = _
    rw [Array.getElem?_eq_getElem (by rw [Array.size_modify]; exact hlt), Array.getElem_modify_self, hk]
    rfl
  have hoth : ∀ k, k ≠ G → (((w.setCell ⟨G, i * 3, none⟩ (.int .i64 l[i].kind)).setCell ⟨G, i * 3 + 1, none⟩ (.string l[i].name)).setCell ⟨G, i * 3 + 2, none⟩ v).heap[k]? = w.heap[k]? := fun k hk =>
    (Below.heap_setCell _ ⟨G, i * 3 + 2, none⟩ _ k hk).trans ((Below.heap_setCell _ ⟨G, i * 3 + 1, none⟩ _ k hk).trans (Below.heap_setCell _ ⟨G, i * 3, none⟩ _ k hk))
  refine ⟨((cs.setIfInBounds (i * 3) (.int .i64 l[i].kind)).setIfInBounds (i * 3 + 1) (.string l[i].name)).setIfInBounds (i * 3 + 2) v, fun j => if j = i then v else z j, hset _ (hset _ (hset _ h1)), by simpa using h2, fun j hj hji => ?_⟩
  by_cases e : j = i
  · subst e
    refine ⟨⟨?_, ?_, ?_⟩, ?_⟩
    · simp [Array.getElem?_setIfInBounds, h2]; omega
    · simp [Array.getElem?_setIfInBounds, h2]; omega
    · simp [Array.getElem?_setIfInBounds, h2]; omega
    · simp only [if_true, hsz]
      exact hv.keep (fun k _ _ hk hh => (hoth k hk.1.2).trans hh)
  · obtain ⟨⟨a1, a2, a3⟩, a4⟩ := h3 j hj (by omega)
    refine ⟨⟨?_, ?_, ?_⟩, ?_⟩
    · rw [Array.getElem?_setIfInBounds_ne (by omega), Array.getElem?_setIfInBounds_ne (by omega), Array.getElem?_setIfInBounds_ne (by omega)]; exact a1
    · rw [Array.getElem?_setIfInBounds_ne (by omega), Array.getElem?_setIfInBounds_ne (by omega), Array.getElem?_setIfInBounds_ne (by omega)]; exact a2
    · rw [Array.getElem?_setIfInBounds_ne (by omega), Array.getElem?_setIfInBounds_ne (by omega), Array.getElem?_setIfInBounds_ne (by omega)]; simp only [if_neg e]; exact a3
    · simp only [if_neg e, hsz]
      exact a4.keep (fun k _ _ hk hh => (hoth k hk.1.2).trans hh)
theorem RowTo.start (N : Nat) (l : List T) (w' : World) (G : Nat) (h : w'.heap[G]? = some (.cells (zeros l.length) 29 (0, 0))) : RowTo N G l 0 w' :=
  ⟨_, fun _ => undef, h, by simp [zeros, size_madeCells], fun j _ h => absurd h (by omega)⟩
theorem RowTo.done {G : Nat} {l : List T} {w : World} (h : RowTo G G l l.length w) {t : T} (ht : t.kids = l) (N : Nat) (W : World) (hN : N ≤ G) (hk : ∀ k, G ≤ k → W.heap[k]? = w.heap[k]?) : TyIn (fun k => N ≤ k) W t (.slice (some ⟨G, 0, none⟩) l.length l.length) := by
  subst ht
  obtain ⟨cs, z, h1, h2, h3⟩ := h
  refine .row t G t.kids.length cs (0, 0) z hN ((hk G (Nat.le_refl _)).trans h1) (Nat.le_refl _) (fun i hi => (h3 i hi hi).1) (fun i hi => ?_)
  exact ((h3 i hi hi).2.keep (fun k _ _ ho hh => (hk k ho.1.1).trans hh)).mono (fun k hk => Nat.le_trans hN hk.1.1)
theorem RowTo.cells {N G : Nat} {l : List T} {i : Nat} {w : World} (h : RowTo N G l i w) (hi : i < l.length) : ∃ x y z, w.cell? ⟨G, i * 3, none⟩ = some x ∧ w.cell? ⟨G, i * 3 + 1, none⟩ = some y ∧ w.cell? ⟨G, i * 3 + 2, none⟩ = some z ∧ w.frozen? ⟨G, i * 3, none⟩ = false ∧ w.frozen? ⟨G, i * 3 + 1, none⟩ = false ∧ w.frozen? ⟨G, i * 3 + 2, none⟩ = false := by
  obtain ⟨cs, z, h1, h2, _⟩ := h
  refine ⟨cs[i * 3]'(by omega), cs[i * 3 + 1]'(by omega), cs[i * 3 + 2]'(by omega), ?_, ?_, ?_, Lib.frozen_of_heap h1 _, Lib.frozen_of_heap h1 _, Lib.frozen_of_heap h1 _⟩ <;> (rw [Lib.cell_of_heap h1]; simp; try omega)

theorem blk_set {W : World} {b o : Nat} {cs : Array Value} {T : TypeId} {m : Nat × Nat} (h : W.heap[b]? = some (.cells cs T m)) (v : Value) : (W.setCell ⟨b, o, none⟩ v).heap[b]? = some (.cells (cs.setIfInBounds o v) T m) := by
  obtain ⟨hlt, hk⟩ := Array.getElem?_eq_some_iff.1 h
  show (W.heap.modify b _)[b]? = _
  rw [Array.getElem?_eq_getElem (by rw [Array.size_modify]; exact hlt), Array.getElem_modify_self, hk]
  rfl
theorem set3_block {W : World} {r : Nat} {x0 y0 z0 : Value} {T : TypeId} (h : W.heap[r]? = some (.cells #[x0, y0, z0] T (0, 0))) (x y z : Value) :
    (((W.setCell ⟨r, 0, none⟩ x).setCell ⟨r, 1, none⟩ y).setCell ⟨r, 2, none⟩ z).heap[r]? = some (.cells #[x, y, z] T (0, 0)) := blk_set (blk_set (blk_set h x) y) z
theorem below3 (w : World) (o1 o2 o3 : Obj) : Below w.heap.size w (((w.alloc o1).alloc o2).alloc o3) := (((Below.refl _ w).alloc (Nat.le_refl _) _).alloc (by simp) _).alloc (by simp; omega) _
def OwnOK (t : T) : Prop := ∀ (a : Option Addr) (c : Nat) (w : World), TysAt w (.slice a t.kids.length c) t.kids →
    Calls Try.prog 31 #[tyV t (.slice a t.kids.length c)] w fun e w' => (∃ a' c', e = .returned (tyV t (.slice a' t.kids.length c')) ∧ TyIn (fun k => w.heap.size ≤ k) w' t (.slice a' t.kids.length c')) ∧ Below w.heap.size w w'

set_option maxHeartbeats 1000000 in
theorem own_leaf (t : T) (h0 : t.kids = []) : OwnOK t := by
  intro a c w _
  have hl : t.kids.length = 0 := by rw [h0]; rfl
  rw [hl]
  simp only [tyV]
  have HB := Lib.hid (show ∀ o1 o2 : Obj, Below w.heap.size w ((w.alloc o1).alloc o2) from fun o1 o2 => ((Below.refl _ w).alloc (Nat.le_refl _) _).alloc (by simp) _)
  clear hl
  go_enter Try.func31, Try.ntmps31
  go_wp2
  refine bodyPost_ret (v := .agg #[.int .i64 t.kind, .string t.name, .slice none 0 0]) (by simp [results, Try.results31, go_sem]) rfl ⟨⟨none, 0, rfl, ?_⟩, HB.out _ _⟩
  exact .leaf t none 0 h0

set_option maxHeartbeats 2000000 in
theorem own_step (t : T) (H : ∀ k ∈ t.kids, OwnOK k) (hn : t.kids.length ≤ 1000000000) (h0 : t.kids ≠ []) : OwnOK t := by
  intro a c w h
  obtain ⟨g, cap, e, hg, hcap, hrow⟩ := h.row h0
  cases e
  have HR := Lib.hid hrow
  have HS := Lib.hid H
  have h0' : ((t.kids.length : Int) == 0) = false := by simpa using h0
  have h0n : ¬ ((t.kids.length : Int) = 0) := by simpa using h0
  clear hrow H h h0
  have hmk := make_row3 t.kids.length hn
  simp only [tyV]
  go_enter Try.func31, Try.ntmps31
  go_wp2
  go_loopw [19] (fun vi wr => ∃ i : Nat, i ≤ t.kids.length ∧ vi = .int .i64 i ∧ Hid (Below w.heap.size w wr) ∧
      wr.heap[w.heap.size]? = some (.cells #[.int .i64 t.kind, .string t.name, .slice (some ⟨g, 0, none⟩) t.kids.length c] 29 (0, 0)) ∧
      wr.heap[w.heap.size + 1]? = some (.cells #[.int .i64 0, .string ⟨#[]⟩, .slice none 0 0] 29 (0, 0)) ∧ Hid (RowTo (w.heap.size + 1 + 1) (w.heap.size + 1 + 1) t.kids i wr)) (fun vi _ => t.kids.length - (intOf vi).toNat)
  case atStart =>
    refine ⟨0, Nat.zero_le _, rfl, Lib.hid (below3 w _ _ _), ?_, ?_, Lib.hid (RowTo.start _ _ _ _ ?_)⟩
    · rw [Below.heap_alloc _ _ _ (by simp; omega), Below.heap_alloc _ _ _ (by simp)]; exact alloc_new w _
    · rw [Below.heap_alloc _ _ _ (by simp)]
      have := alloc_new (w.alloc (.cells #[.int .i64 t.kind, .string t.name, .slice (some ⟨g, 0, none⟩) t.kids.length c] 29)) (.cells #[.int .i64 0, .string ⟨#[]⟩, .slice none 0 0] 29)
      simpa using this
    · have := alloc_new ((w.alloc (.cells #[.int .i64 t.kind, .string t.name, .slice (some ⟨g, 0, none⟩) t.kids.length c] 29)).alloc (.cells #[.int .i64 0, .string ⟨#[]⟩, .slice none 0 0] 29)) (.cells (zeros t.kids.length) 29)
      simpa using this
  case round =>
    obtain ⟨i, hi, rfl, hB, hb0, hb1, hRow⟩ := hrel
    by_cases hlt : i < t.kids.length
    · obtain ⟨pa, ca, x0, x1, x2, xk⟩ := HR.out i hlt
      have f1 := fun o => hB.out.cell (p := ⟨g, o, none⟩) hg
      rw [← f1] at x0 x1 x2
      have hgr : g < wr.heap.size := Nat.lt_of_lt_of_le hg hB.out.size
      have HC := Lib.hid (fun o => HS.out t.kids[i] (List.getElem_mem hlt) pa ca (wr.alloc o) (xk.keep ((KeepT.of_below hB.out).trans (keepT_alloc wr o))))
      have HN := Lib.hid (fun (W : World) (v : Value) (h : RowTo (w.heap.size + 1 + 1) (w.heap.size + 1 + 1) t.kids i W) (hv : TyIn (fun k => (w.heap.size + 1 + 1 ≤ k ∧ k ≠ w.heap.size + 1 + 1) ∧ k < W.heap.size) W t.kids[i] v) => h.next hlt hv)
      generalize hk : t.kids[i] = u at x0 x1 x2 HC HN
      simp only [tyV] at HC
      have hGlt : w.heap.size + 1 + 1 < wr.heap.size := by obtain ⟨cs, z, h1, _⟩ := hRow.out; exact (Array.getElem?_eq_some_iff.1 h1).1
      clear f1 xk hk HR
      go_wp2_with (go_at_call 31; refine (HC.out _).mono ?_)
      rintro e w2 ⟨⟨a', c', rfl, hIn⟩, hb2⟩
      have hRow2 := (hRow.out.below ((Below.refl _ wr).alloc (Nat.le_refl _) _)).below hb2
      obtain ⟨y0, y1, y2, c0, c1, c2, f0, f1, f2⟩ := hRow2.cells hlt
      have HR2 := Lib.hid (HN.out _ _ hRow2 ((hIn.lt).mono (fun k hk => ⟨⟨by have := hk.1; simp at this; omega, by have := hk.1; simp at this; omega⟩, hk.2⟩)))
      have HB2 := Lib.hid (hB.out.trans (((Below.refl wr.heap.size wr).alloc (Nat.le_refl _) _).trans (hb2.mono (by simp)) |>.mono hB.out.size))
      have hsz2 : wr.heap.size + 1 ≤ w2.heap.size := by have := hb2.size; simpa using this
      have b0 : w2.heap[w.heap.size]? = some (.cells #[.int .i64 t.kind, .string t.name, .slice (some ⟨g, 0, none⟩) t.kids.length c] 29 (0, 0)) := (hb2.block _ (by simp; omega)).trans ((Below.heap_alloc wr _ _ (by omega)).trans hb0)
      have b1 : w2.heap[w.heap.size + 1]? = some (.cells #[.int .i64 0, .string ⟨#[]⟩, .slice none 0 0] 29 (0, 0)) := (hb2.block _ (by simp; omega)).trans ((Below.heap_alloc wr _ _ (by omega)).trans hb1)
      have HB0 := Lib.hid b0; have HB1 := Lib.hid b1
      clear b0 b1 hIn hb2 hRow2 HN hb0 hb1 hRow hB HC x0 x1 x2
      go_wp2
      go_roundw
      case rel =>
        refine ⟨i + 1, by omega, by go_num, Lib.hid ?_, ?_, ?_, HR2⟩
        · exact ((HB2.out.setCell (p := ⟨w.heap.size + 1 + 1, i * 3, none⟩) (by show w.heap.size ≤ w.heap.size + 1 + 1; omega) _).setCell (p := ⟨w.heap.size + 1 + 1, i * 3 + 1, none⟩) (by show w.heap.size ≤ w.heap.size + 1 + 1; omega) _).setCell (p := ⟨w.heap.size + 1 + 1, i * 3 + 2, none⟩) (by show w.heap.size ≤ w.heap.size + 1 + 1; omega) _
        · exact (Below.heap_setCell _ ⟨w.heap.size + 1 + 1, i * 3 + 2, none⟩ _ _ (by show w.heap.size ≠ w.heap.size + 1 + 1; omega)).trans ((Below.heap_setCell _ ⟨w.heap.size + 1 + 1, i * 3 + 1, none⟩ _ _ (by show w.heap.size ≠ w.heap.size + 1 + 1; omega)).trans ((Below.heap_setCell _ ⟨w.heap.size + 1 + 1, i * 3, none⟩ _ _ (by show w.heap.size ≠ w.heap.size + 1 + 1; omega)).trans HB0.out))
        · exact (Below.heap_setCell _ ⟨w.heap.size + 1 + 1, i * 3 + 2, none⟩ _ _ (by show w.heap.size + 1 ≠ w.heap.size + 1 + 1; omega)).trans ((Below.heap_setCell _ ⟨w.heap.size + 1 + 1, i * 3 + 1, none⟩ _ _ (by show w.heap.size + 1 ≠ w.heap.size + 1 + 1; omega)).trans ((Below.heap_setCell _ ⟨w.heap.size + 1 + 1, i * 3, none⟩ _ _ (by show w.heap.size + 1 ≠ w.heap.size + 1 + 1; omega)).trans HB1.out))
      case measure => simp [intOf]; omega
    · obtain rfl : i = t.kids.length := by omega
      obtain ⟨c0, c1, c2⟩ := three_cells hb0
      obtain ⟨d0, d1, d2⟩ := three_cells hb1
      have a2 := Lib.frozen_of_heap hb0 2
      have e0 := Lib.frozen_of_heap hb1 0
      have e1 := Lib.frozen_of_heap hb1 1
      have e2 := Lib.frozen_of_heap hb1 2
      have HD := Lib.hid (hRow.out.done rfl (w.heap.size))
      have HB1 := Lib.hid hb1
      clear hb0 hb1 HR HS hmk
      go_wp2
      refine bodyPost_ret (v := .agg #[.int .i64 t.kind, .string t.name, .slice (some ⟨w.heap.size + 1 + 1, 0, none⟩) t.kids.length t.kids.length]) ?_ rfl ⟨⟨some ⟨w.heap.size + 1 + 1, 0, none⟩, t.kids.length, rfl, HD.out _ (by omega) ?_⟩, ?_⟩
      · have hc := three_cells (set3_block (W := wr.setCell ⟨w.heap.size, 2, none⟩ (.slice (some ⟨w.heap.size + 1 + 1, 0, none⟩) t.kids.length t.kids.length)) ((Below.heap_setCell _ ⟨w.heap.size, 2, none⟩ _ _ (by show w.heap.size + 1 ≠ w.heap.size; omega)).trans HB1.out) (.int .i64 t.kind) (.string t.name) (.slice (some ⟨w.heap.size + 1 + 1, 0, none⟩) t.kids.length t.kids.length))
        simp [results, Try.results31, go_sem, hc.1, hc.2.1, hc.2.2]
      · intro k hk
        exact (Below.heap_setCell _ ⟨w.heap.size + 1, 2, none⟩ _ _ (by show k ≠ w.heap.size + 1; omega)).trans ((Below.heap_setCell _ ⟨w.heap.size + 1, 1, none⟩ _ _ (by show k ≠ w.heap.size + 1; omega)).trans ((Below.heap_setCell _ ⟨w.heap.size + 1, 0, none⟩ _ _ (by show k ≠ w.heap.size + 1; omega)).trans (Below.heap_setCell _ ⟨w.heap.size, 2, none⟩ _ _ (by show k ≠ w.heap.size; omega))))
      · exact (((hB.out.setCell (p := ⟨w.heap.size, 2, none⟩) (Nat.le_refl _) _).setCell (p := ⟨w.heap.size + 1, 0, none⟩) (by show w.heap.size ≤ w.heap.size + 1; omega) _).setCell (p := ⟨w.heap.size + 1, 1, none⟩) (by show w.heap.size ≤ w.heap.size + 1; omega) _).setCell (p := ⟨w.heap.size + 1, 2, none⟩) (by show w.heap.size ≤ w.heap.size + 1; omega) _

/-- No part of a small type is wider than the type. -/
theorem len_sizes : ∀ l : List T, l.length ≤ tsizes l
  | [] => Nat.le_refl _
  | a :: l => by have := len_sizes l; have := tsize_eq a; simp [tsizes]; omega
theorem size_mem {k : T} : ∀ {l : List T}, k ∈ l → tsize k ≤ tsizes l
  | a :: l, h => by
    rw [tsizes]
    rcases List.mem_cons.1 h with rfl | h
    · omega
    · have := size_mem h; omega
theorem kids_small {t : T} {n : Nat} (h : tsize t ≤ n) : t.kids.length ≤ n ∧ ∀ k ∈ t.kids, tsize k ≤ n := by
  have e := tsize_eq t
  exact ⟨by have := len_sizes t.kids; omega, fun k hk => by have := size_mem hk; omega⟩
theorem own_ok (t : T) (h : tsize t ≤ 1000000000) : OwnOK t := by
  by_cases h0 : t.kids = []
  · exact own_leaf t h0
  · exact own_step t (fun k hk => own_ok k ((kids_small h).2 k hk)) (kids_small h).1 h0
termination_by SizeOf.sizeOf t
decreasing_by exact T.kid_size hk
theorem own_any {t : T} {v : Value} {w : World} (hs : tsize t ≤ 1000000000) (h : TysAt w v t.kids) :
    Calls Try.prog 31 #[tyV t v] w fun e w' => (∃ a c, e = .returned (tyV t (.slice a t.kids.length c)) ∧ TyIn (fun k => w.heap.size ≤ k) w' t (.slice a t.kids.length c)) ∧ Below w.heap.size w w' := by
  obtain ⟨a, c, rfl⟩ := h.shape
  exact own_ok t hs a c w h
end Go.Proofs.Yteoelcefjjmjiaa
