/- own, (Subst).Apply. -/
import Derived.Test.YtmbaolcdjgilpaaSbApply
namespace Go.Proofs.Ytmbaolcdjgilpaa
open Go.RowKit Go.Sort Go.Lib
attribute [local go_sem] Oper.semAt_some

/-- A type in memory of its own. -/
def ResT (N : Nat) (t : T) (e : Ending) (w' : World) : Prop := ∃ a c, e = .returned (tyV t (.slice a t.kids.length c)) ∧ TyIn (fun k => N ≤ k) w' t (.slice a t.kids.length c)
def OwnS (t : T) : Prop := ∀ (a : Option Addr) (c : Nat) (w : World), TysAt w (.slice a t.kids.length c) t.kids →
    Calls Try.prog 31 #[tyV t (.slice a t.kids.length c)] w fun e w' => ResT w.heap.size t e w' ∧ Below w.heap.size w w'
def AppOK (d : List PR) (t : T) : Prop := ∀ (v : Value) (a : Option Addr) (c : Nat) (w : World), SubAt v d w → TysAt w (.slice a t.kids.length c) t.kids →
    Calls Try.prog 16 #[.agg #[v], tyV t (.slice a t.kids.length c)] w fun e w' => ResT w.heap.size (app d t) e w' ∧ Below w.heap.size w w'
theorem sub_nil (w : World) (a : Option Addr) (c : Nat) (h : a = none → c = 0) : SubAt (.slice a 0 c) [] w := ⟨⟨.inl ⟨rfl, a, c, rfl, h⟩, gath_nil.neat⟩, fun x hx => by cases hx⟩
theorem below_two (w : World) (o1 o2 : Obj) : Below w.heap.size w ((w.alloc o1).alloc o2) := ((Below.refl _ w).alloc (Nat.le_refl _) _).alloc (by simp) _
theorem set3_others {W : World} {r k : Nat} (x y z : Value) (hk : k ≠ r) : (((W.setCell ⟨r, 0, none⟩ x).setCell ⟨r, 1, none⟩ y).setCell ⟨r, 2, none⟩ z).heap[k]? = W.heap[k]? :=
  (Below.heap_setCell _ ⟨r, 2, none⟩ _ k hk).trans ((Below.heap_setCell _ ⟨r, 1, none⟩ _ k hk).trans (Below.heap_setCell _ ⟨r, 0, none⟩ _ k hk))
theorem below_set3 {N : Nat} {w W : World} (h : Below N w W) {r : Nat} (hr : N ≤ r) (x y z : Value) : Below N w (((W.setCell ⟨r, 0, none⟩ x).setCell ⟨r, 1, none⟩ y).setCell ⟨r, 2, none⟩ z) :=
  ((h.setCell (p := ⟨r, 0, none⟩) hr x).setCell (p := ⟨r, 1, none⟩) hr y).setCell (p := ⟨r, 2, none⟩) hr z

theorem new_two (w : World) (o1 o2 : Obj) : ((w.alloc o1).alloc o2).heap[w.heap.size + 1]? = some o2 := by
  have := alloc_new (w.alloc o1) o2
  simpa using this

set_option maxHeartbeats 1000000 in
theorem own_of (t : T) (H : AppOK [] t) : OwnS t := by
  intro a c w h
  have HC := Lib.hid (fun o1 o2 => H (.slice none 0 0) a c ((w.alloc o1).alloc o2) (sub_nil _ _ _ (fun _ => rfl)) (h.keep ((keepT_alloc w o1).trans (keepT_alloc _ o2))))
  rw [app_nil] at HC
  clear H h
  simp only [tyV] at HC ⊢
  go_enter Try.func31, Try.ntmps31
  go_wp2_with (go_at_call 16; refine (HC.out _ _).mono ?_)
  rintro e w2 ⟨⟨a2, c2, rfl, hin⟩, hb⟩
  have hz2 := (hb.block (w.heap.size + 1) (by simp)).trans (new_two w _ _)
  obtain ⟨z0, z1, z2⟩ := three_cells hz2
  have u0 := Lib.frozen_of_heap hz2 0
  have u1 := Lib.frozen_of_heap hz2 1
  have u2 := Lib.frozen_of_heap hz2 2
  have HZ := Lib.hid hz2
  have HI := Lib.hid hin
  have HB := Lib.hid ((below_two w _ _).trans (hb.mono (by simp; omega)))
  clear hz2 hin hb HC
  simp only [tyV]
  go_wp2
  have hc := three_cells (set3_block HZ.out (.int .i64 t.kind) (.string t.name) (.slice a2 t.kids.length c2))
  refine bodyPost_ret (v := .agg #[.int .i64 t.kind, .string t.name, .slice a2 t.kids.length c2]) (by simp [results, Try.results31, go_sem, hc.1, hc.2.1, hc.2.2]) rfl ⟨⟨a2, c2, rfl, ?_⟩, below_set3 HB.out (Nat.le_succ _) _ _ _⟩
  refine (HI.out.keep fun k _ _ hk hh => (set3_others _ _ _ ?_).trans hh).mono fun k hk => ?_
  · have : w.heap.size + 1 + 1 ≤ k := by simpa using hk
    omega
  · have : w.heap.size + 1 + 1 ≤ k := by simpa using hk
    omega

theorem new_three (w : World) (o1 o2 o3 : Obj) : (((w.alloc o1).alloc o2).alloc o3).heap[w.heap.size]? = some o1 ∧ (((w.alloc o1).alloc o2).alloc o3).heap[w.heap.size + 1]? = some o2 ∧ (((w.alloc o1).alloc o2).alloc o3).heap[w.heap.size + 1 + 1]? = some o3 := by
  refine ⟨?_, ?_, ?_⟩
  · rw [Below.heap_alloc _ _ _ (by simp; omega), Below.heap_alloc _ _ _ (by simp)]; exact alloc_new w _
  · rw [Below.heap_alloc _ _ _ (by simp)]
    have := alloc_new (w.alloc o1) o2
    simpa using this
  · have := alloc_new ((w.alloc o1).alloc o2) o3
    simpa using this
theorem below_three (w : World) (o1 o2 o3 : Obj) : Below w.heap.size w (((w.alloc o1).alloc o2).alloc o3) := (((Below.refl _ w).alloc (Nat.le_refl _) _).alloc (by simp) _).alloc (by simp; omega) _

set_option maxHeartbeats 1000000 in
theorem app_leaf (d : List PR) (t : T) (h0 : t.kids = []) (hv : ∀ n, t ≠ .var n) (hk : (t.kind == 1) = false) : AppOK d t := by
  intro v a c w _ _
  obtain ⟨e1, e2, e3⟩ := app_parts d t hv
  have hl : t.kids.length = 0 := by rw [h0]; rfl
  have hl2 : (app d t).kids = [] := by rw [e3, h0]; rfl
  have HB := Lib.hid (below_three w)
  unfold ResT
  rw [hl, show (app d t).kids.length = 0 by rw [hl2]; rfl]
  simp only [tyV, e1, e2]
  clear e1 e2 e3 hl
  go_enter Try.func16, Try.ntmps16
  go_wp2
  refine bodyPost_ret (v := .agg #[.int .i64 t.kind, .string t.name, .slice none 0 0]) (by simp [results, Try.results16, go_sem]) rfl ⟨⟨none, 0, rfl, .leaf _ none 0 hl2⟩, HB.out _ _ _⟩

theorem app_var (d : List PR) (n : ByteArray) (hl : d.length < 1152921504606846976) (H : ∀ x, lk n d = some x → OwnS x.t) : AppOK d (.var n) := by
  intro v a c w hs _
  have HB := Lib.hid (below_three w)
  have HF := Lib.hid (fun o1 o2 o3 => find_any v d n (((w.alloc o1).alloc o2).alloc o3) (hs.below (HB.out o1 o2 o3)) hl)
  have HN := Lib.hid (new_three w)
  show Calls _ _ #[_, tyV (.var n) (.slice a 0 c)] _ _
  cases hk : lk n d with
  | none =>
    rw [hk] at HF
    have ha : app d (.var n) = .var n := by rw [app, ty, hk]; rfl
    rw [ha]
    unfold ResT
    simp only [show (T.var n).kids.length = 0 from rfl, tyV, show (T.var n).kind = 1 from rfl, show (T.var n).name = n from rfl, fv', Option.isSome] at HF ⊢
    clear ha hk H hs
    go_enter Try.func16, Try.ntmps16
    go_wp2_with fail
    go_wp2_with (go_at_call 32; refine (HF.out _ _ _).mono ?_)
    rintro e w2 ⟨rfl, hb⟩
    obtain ⟨_, n1, n2⟩ := HN.out (.cells #[v] 39) (.cells #[.int .i64 1, .string n, .slice a 0 c] 34) (.cells #[.int .i64 0, .string ⟨#[]⟩, .slice none 0 0] 34)
    have m1 := (hb.block (w.heap.size + 1) (by simp)).trans n1
    have m2 := (hb.block (w.heap.size + 1 + 1) (by simp)).trans n2
    have HB2 := Lib.hid ((HB.out _ _ _).trans (hb.mono (by simp; omega)))
    obtain ⟨y0, y1, y2⟩ := three_cells m1
    obtain ⟨z0, z1, z2⟩ := three_cells m2
    have v2 := Lib.frozen_of_heap m1 2
    have u0 := Lib.frozen_of_heap m2 0
    have u1 := Lib.frozen_of_heap m2 1
    have u2 := Lib.frozen_of_heap m2 2
    have l1 := (Array.getElem?_eq_some_iff.1 m1).1
    have l2 := (Array.getElem?_eq_some_iff.1 m2).1
    have M2 := Lib.hid m2
    clear hb n1 n2 m1 m2 HF HN
    go_wp2
    have hfin : ∀ o : Obj, (((((w2.setCell ⟨w.heap.size + 1, 2, none⟩ (.slice none 0 0)).setCell ⟨w.heap.size + 1 + 1, 0, none⟩ (.int .i64 1)).setCell ⟨w.heap.size + 1 + 1, 1, none⟩ (.string n)).setCell ⟨w.heap.size + 1 + 1, 2, none⟩ (.slice none 0 0)).alloc o).heap[w.heap.size + 1 + 1]? = some (.cells #[.int .i64 1, .string n, .slice none 0 0] 34 (0, 0)) := fun o => by
      rw [Below.heap_alloc _ _ _ (by simp; omega)]
      exact set3_block ((Below.heap_setCell _ ⟨w.heap.size + 1, 2, none⟩ _ _ (by show w.heap.size + 1 + 1 ≠ w.heap.size + 1; omega)).trans M2.out) _ _ _
    have hc := three_cells (hfin (.cells #[.int .i64 0, .string ⟨#[]⟩, .slice none 0 0] 34))
    refine bodyPost_ret (v := .agg #[.int .i64 1, .string n, .slice none 0 0]) (by simp [results, Try.results16, go_sem, hc.1, hc.2.1, hc.2.2]) rfl ⟨⟨none, 0, rfl, .leaf _ none 0 rfl⟩, ?_⟩
    exact (below_set3 (HB2.out.setCell (p := ⟨w.heap.size + 1, 2, none⟩) (by show w.heap.size ≤ w.heap.size + 1; omega) _) (by omega) _ _ _).alloc (by simp; omega) _
  | some x =>
    rw [hk] at HF
    have hx := H x hk
    have hxt := hs.2 x (lk_name hk).1
    have ha : app d (.var n) = x.t := by rw [app, ty, hk]; rfl
    rw [ha]
    have HO := Lib.hid (fun (W : World) (k : KeepT w W) => hx x.a x.c W (hxt.keep k))
    simp only [tyV, show (T.var n).kind = 1 from rfl, show (T.var n).name = n from rfl, fv', Option.isSome] at HF HO ⊢
    clear ha hk H hs hx hxt
    go_enter Try.func16, Try.ntmps16
    go_wp2_with (go_at_call 32; refine (HF.out _ _ _).mono ?_)
    rintro e w2 ⟨rfl, hb⟩
    obtain ⟨_, _, n2⟩ := HN.out (.cells #[v] 39) (.cells #[.int .i64 1, .string n, .slice a 0 c] 34) (.cells #[.int .i64 0, .string ⟨#[]⟩, .slice none 0 0] 34)
    have m2 := (hb.block (w.heap.size + 1 + 1) (by simp)).trans n2
    have HB2 := Lib.hid ((HB.out _ _ _).trans (hb.mono (by simp; omega)))
    have l2 := (Array.getElem?_eq_some_iff.1 m2).1
    have M2 := Lib.hid m2
    clear hb n2 m2 HF HN
    go_wp2_with (go_at_call 31; refine (HO.out _ ?kk).mono ?_; (case kk => exact (KeepT.of_below HB2.out).trans (keepT_alloc _ _)))
    rintro e w3 ⟨⟨a3, c3, rfl, hin⟩, hb3⟩
    have m3 := (hb3.block (w.heap.size + 1 + 1) (by simp; omega)).trans ((Below.heap_alloc w2 _ _ l2).trans M2.out)
    obtain ⟨z0, z1, z2⟩ := three_cells m3
    have u0 := Lib.frozen_of_heap m3 0
    have u1 := Lib.frozen_of_heap m3 1
    have u2 := Lib.frozen_of_heap m3 2
    have M3 := Lib.hid m3
    have HI := Lib.hid hin
    have HB3 := Lib.hid ((HB2.out.alloc HB2.out.size (.cells #[.int .i64 x.t.kind, .string x.t.name, .slice x.a x.t.kids.length x.c] 34)).trans (hb3.mono (by simp; omega)))
    clear m3 hin hb3 HO
    simp only [tyV]
    go_wp2
    have hc := three_cells (set3_block M3.out (.int .i64 x.t.kind) (.string x.t.name) (.slice a3 x.t.kids.length c3))
    refine bodyPost_ret (v := .agg #[.int .i64 x.t.kind, .string x.t.name, .slice a3 x.t.kids.length c3]) (by simp [results, Try.results16, go_sem, hc.1, hc.2.1, hc.2.2]) rfl ⟨⟨a3, c3, rfl, ?_⟩, below_set3 HB3.out (by omega) _ _ _⟩
    refine (HI.out.keep fun k _ _ hk hh => (set3_others _ _ _ ?_).trans hh).mono fun k hk => ?_
    · have : w2.heap.size + 1 ≤ k := by simpa using hk
      omega
    · have : w2.heap.size + 1 ≤ k := by simpa using hk
      omega

theorem set3_others' {W : World} {r o k : Nat} (x y z : Value) (hk : k ≠ r) : (((W.setCell ⟨r, o, none⟩ x).setCell ⟨r, o + 1, none⟩ y).setCell ⟨r, o + 2, none⟩ z).heap[k]? = W.heap[k]? :=
  (Below.heap_setCell _ ⟨r, o + 2, none⟩ _ k hk).trans ((Below.heap_setCell _ ⟨r, o + 1, none⟩ _ k hk).trans (Below.heap_setCell _ ⟨r, o, none⟩ _ k hk))
theorem below_set3' {N : Nat} {w W : World} (h : Below N w W) {r o : Nat} (hr : N ≤ r) (x y z : Value) : Below N w (((W.setCell ⟨r, o, none⟩ x).setCell ⟨r, o + 1, none⟩ y).setCell ⟨r, o + 2, none⟩ z) :=
  ((h.setCell (p := ⟨r, o, none⟩) hr x).setCell (p := ⟨r, o + 1, none⟩) hr y).setCell (p := ⟨r, o + 2, none⟩) hr z
theorem row_new (w : World) (n : Nat) (o1 o2 o3 : Obj) : ((((w.alloc o1).alloc o2).alloc o3).alloc (.cells (zeros n) 34)).heap[w.heap.size + 1 + 1 + 1]? = some (.cells (zeros n) 34 (0, 0)) := by
  have := alloc_new (((w.alloc o1).alloc o2).alloc o3) (.cells (zeros n) 34)
  simpa using this
theorem below_four (w : World) (o1 o2 o3 o4 : Obj) : Below w.heap.size w ((((w.alloc o1).alloc o2).alloc o3).alloc o4) := (below_three w o1 o2 o3).alloc (by simp; omega) _
theorem new_four (w : World) (o1 o2 o3 o4 : Obj) : ((((w.alloc o1).alloc o2).alloc o3).alloc o4).heap[w.heap.size]? = some o1 ∧ ((((w.alloc o1).alloc o2).alloc o3).alloc o4).heap[w.heap.size + 1]? = some o2 ∧ ((((w.alloc o1).alloc o2).alloc o3).alloc o4).heap[w.heap.size + 1 + 1]? = some o3 := by
  obtain ⟨h1, h2, h3⟩ := new_three w o1 o2 o3
  refine ⟨?_, ?_, ?_⟩
  · rw [Below.heap_alloc _ _ _ (by simp; omega)]; exact h1
  · rw [Below.heap_alloc _ _ _ (by simp)]; exact h2
  · rw [Below.heap_alloc _ _ _ (by simp)]; exact h3

set_option maxHeartbeats 4000000 in
theorem app_step (d : List PR) (t : T) (H : ∀ k ∈ t.kids, AppOK d k) (hn : t.kids.length ≤ 1000000000) (h0 : t.kids ≠ []) (hv : ∀ n, t ≠ .var n) (hk : (t.kind == 1) = false) : AppOK d t := by
  intro v a c w hs h
  obtain ⟨e1, e2, e3⟩ := app_parts d t hv
  obtain ⟨g, cap, e, hg, hcap, hrow⟩ := h.row h0
  cases e
  have HR := Lib.hid hrow
  have HS := Lib.hid H
  have HSub := Lib.hid hs
  have h0' : ((t.kids.length : Int) == 0) = false := by simpa using h0
  have h0n : ¬ ((t.kids.length : Int) = 0) := by simpa using h0
  have hlen : (app d t).kids.length = t.kids.length := by rw [e3]; simp
  have E3 := Lib.hid e3
  clear hrow H h h0 hs e3
  have hmk := make_row3 t.kids.length hn
  unfold ResT
  rw [hlen]
  simp only [tyV, e1, e2]
  clear e1 e2
  go_enter Try.func16, Try.ntmps16
  go_wp2
  go_loopw [36] (fun vi wr => ∃ i : Nat, i ≤ t.kids.length ∧ vi = .int .i64 i ∧ Hid (Below w.heap.size w wr) ∧
      wr.heap[w.heap.size]? = some (.cells #[v] 39 (0, 0)) ∧
      wr.heap[w.heap.size + 1]? = some (.cells #[.int .i64 t.kind, .string t.name, .slice (some ⟨g, 0, none⟩) t.kids.length c] 34 (0, 0)) ∧
      wr.heap[w.heap.size + 1 + 1]? = some (.cells #[.int .i64 0, .string ⟨#[]⟩, .slice none 0 0] 34 (0, 0)) ∧ Hid (RowTo (w.heap.size + 1 + 1 + 1) (w.heap.size + 1 + 1 + 1) (t.kids.map (app d)) i wr)) (fun vi _ => t.kids.length - (intOf vi).toNat)
  case atStart =>
    obtain ⟨n1, n2, n3⟩ := new_four w (.cells #[v] 39) (.cells #[.int .i64 t.kind, .string t.name, .slice (some ⟨g, 0, none⟩) t.kids.length c] 34) (.cells #[.int .i64 0, .string ⟨#[]⟩, .slice none 0 0] 34) (.cells (zeros t.kids.length) 34)
    refine ⟨0, Nat.zero_le _, rfl, Lib.hid (below_four w _ _ _ _), n1, n2, n3, Lib.hid (RowTo.start _ _ _ _ ?_)⟩
    rw [List.length_map]
    exact row_new w _ _ _ _
  case round =>
    obtain ⟨i, hi, rfl, hB, hb0, hb1, hb2, hRow⟩ := hrel
    by_cases hlt : i < t.kids.length
    · obtain ⟨pa, ca, x0, x1, x2, xk⟩ := HR.out i hlt
      have f1 := fun o => hB.out.cell (p := ⟨g, o, none⟩) hg
      rw [← f1] at x0 x1 x2
      have hgr : g < wr.heap.size := Nat.lt_of_lt_of_le hg hB.out.size
      have HC := Lib.hid (fun o => HS.out t.kids[i] (List.getElem_mem hlt) v pa ca (wr.alloc o) ((HSub.out.below hB.out).below ((Below.refl _ wr).alloc (Nat.le_refl _) o)) (xk.keep ((KeepT.of_below hB.out).trans (keepT_alloc wr o))))
      have HN := Lib.hid (fun (W : World) (u : Value) (h : RowTo (w.heap.size + 1 + 1 + 1) (w.heap.size + 1 + 1 + 1) (t.kids.map (app d)) i W) (hv : TyIn (fun k => (w.heap.size + 1 + 1 + 1 ≤ k ∧ k ≠ w.heap.size + 1 + 1 + 1) ∧ k < W.heap.size) W (app d t.kids[i]) u) => h.next (by simpa using hlt) (by simpa using hv))
      simp only [List.getElem_map] at HN
      generalize hku : t.kids[i] = u at x0 x1 x2 HC HN
      unfold ResT at HC
      generalize app d u = u' at HC HN
      simp only [tyV] at HC
      have hGlt : w.heap.size + 1 + 1 + 1 < wr.heap.size := by obtain ⟨cs, z, h1, _⟩ := hRow.out; exact (Array.getElem?_eq_some_iff.1 h1).1
      have y0 : wr.cell? ⟨w.heap.size, 0, none⟩ = some v := by rw [Lib.cell_of_heap hb0]; rfl
      have l0 : w.heap.size < wr.heap.size := by omega
      clear f1 xk hku HR
      go_wp2_with (go_at_call 16; refine (HC.out _).mono ?_)
      rintro e w2 ⟨⟨a', c', rfl, hIn⟩, hb⟩
      have hRow2 := (hRow.out.below ((Below.refl _ wr).alloc (Nat.le_refl _) _)).below hb
      obtain ⟨z0, z1, z2, c0, c1, c2, f0, f1, f2⟩ := hRow2.cells (by simpa using hlt)
      have HR2 := Lib.hid (HN.out _ _ hRow2 ((hIn.lt).mono (fun k hk => ⟨⟨by have := hk.1; simp at this; omega, by have := hk.1; simp at this; omega⟩, hk.2⟩)))
      have HB2 := Lib.hid (hB.out.trans (((Below.refl wr.heap.size wr).alloc (Nat.le_refl _) (.cells #[.int .i64 u.kind, .string u.name, .slice pa u.kids.length ca] 34)).trans (hb.mono (by simp)) |>.mono hB.out.size))
      have hsz2 : wr.heap.size + 1 ≤ w2.heap.size := by have := hb.size; simpa using this
      have b0 := (hb.block w.heap.size (by simp; omega)).trans ((Below.heap_alloc wr _ _ (by omega)).trans hb0)
      have b1 := (hb.block (w.heap.size + 1) (by simp; omega)).trans ((Below.heap_alloc wr _ _ (by omega)).trans hb1)
      have b2 := (hb.block (w.heap.size + 1 + 1) (by simp; omega)).trans ((Below.heap_alloc wr _ _ (by omega)).trans hb2)
      have HB0 := Lib.hid b0; have HB1 := Lib.hid b1; have HBz := Lib.hid b2
      clear b0 b1 b2 hIn hb hRow2 HN hb0 hb1 hb2 hRow hB HC x0 x1 x2 y0
      dsimp only [tyV]
      go_wp2
      go_roundw
      case rel => exact ⟨i + 1, by omega, by go_num, Lib.hid (below_set3' HB2.out (by omega) _ _ _), (set3_others' _ _ _ (by omega)).trans HB0.out, (set3_others' _ _ _ (by omega)).trans HB1.out, (set3_others' _ _ _ (by omega)).trans HBz.out, HR2⟩
      case measure => simp [intOf]; omega
    · obtain rfl : i = t.kids.length := by omega
      obtain ⟨c0, c1, c2⟩ := three_cells hb1
      obtain ⟨d0, d1, d2⟩ := three_cells hb2
      have a2 := Lib.frozen_of_heap hb1 2
      have e0 := Lib.frozen_of_heap hb2 0
      have e1 := Lib.frozen_of_heap hb2 1
      have e2 := Lib.frozen_of_heap hb2 2
      have hrw : RowTo (w.heap.size + 1 + 1 + 1) (w.heap.size + 1 + 1 + 1) (t.kids.map (app d)) (t.kids.map (app d)).length wr := by rw [List.length_map]; exact hRow.out
      have HD := Lib.hid (hrw.done E3.out (w.heap.size))
      rw [List.length_map] at HD
      have HB1 := Lib.hid hb2
      clear hb0 hb1 hb2 HR HS hmk hrw hRow
      go_wp2
      have h2 := (Below.heap_setCell wr ⟨w.heap.size + 1, 2, none⟩ (.slice (some ⟨w.heap.size + 1 + 1 + 1, 0, none⟩) t.kids.length t.kids.length) (w.heap.size + 1 + 1) (by show w.heap.size + 1 + 1 ≠ w.heap.size + 1; omega)).trans HB1.out
      have hc := three_cells (set3_block h2 (.int .i64 t.kind) (.string t.name) (.slice (some ⟨w.heap.size + 1 + 1 + 1, 0, none⟩) t.kids.length t.kids.length))
      refine bodyPost_ret (v := .agg #[.int .i64 t.kind, .string t.name, .slice (some ⟨w.heap.size + 1 + 1 + 1, 0, none⟩) t.kids.length t.kids.length]) (by simp [results, Try.results16, go_sem, hc.1, hc.2.1, hc.2.2]) rfl ⟨⟨some ⟨w.heap.size + 1 + 1 + 1, 0, none⟩, t.kids.length, rfl, HD.out _ (by omega) ?_⟩, ?_⟩
      · intro k hk
        exact (set3_others _ _ _ (by omega)).trans (Below.heap_setCell _ ⟨w.heap.size + 1, 2, none⟩ _ _ (by show k ≠ w.heap.size + 1; omega))
      · exact below_set3 (hB.out.setCell (p := ⟨w.heap.size + 1, 2, none⟩) (by show w.heap.size ≤ w.heap.size + 1; omega) _) (by omega) _ _ _

theorem kind_one {t : T} (hv : ∀ n, t ≠ .var n) : (t.kind == 1) = false := by
  cases t with
  | var n => exact absurd rfl (hv n)
  | con n l => rfl
  | fn a b => rfl
  | all n a => rfl
theorem app_ok (d : List PR) (hl : d.length < 1152921504606846976) (H : ∀ n x, lk n d = some x → OwnS x.t) (t : T) (h : tsize t ≤ 1000000000) : AppOK d t := by
  by_cases hv : ∃ n, t = .var n
  · obtain ⟨n, rfl⟩ := hv
    exact app_var d n hl (H n)
  · have hv' : ∀ n, t ≠ .var n := fun n e => hv ⟨n, e⟩
    by_cases h0 : t.kids = []
    · exact app_leaf d t h0 hv' (kind_one hv')
    · exact app_step d t (fun k hk => app_ok d hl H k ((kids_small h).2 k hk)) (kids_small h).1 h0 hv' (kind_one hv')
termination_by SizeOf.sizeOf t
decreasing_by exact T.kid_size hk
theorem own_ok (t : T) (h : tsize t ≤ 1000000000) : OwnS t := own_of t (app_ok [] (by decide) (fun n x hx => by cases hx) t h)
theorem own_any {t : T} {v : Value} {w : World} (hs : tsize t ≤ 1000000000) (h : TysAt w v t.kids) :
    Calls Try.prog 31 #[tyV t v] w fun e w' => ResT w.heap.size t e w' ∧ Below w.heap.size w w' := by
  obtain ⟨a, c, rfl⟩ := h.shape
  exact own_ok t hs a c w h
/-- No type of a row is greater than so. -/
def SizedAll (d : List PR) : Prop := ∀ x ∈ d, tsize x.t ≤ 1000000000
theorem apply_any {d : List PR} {t : T} {s v : Value} {w : World} (hl : d.length < 1152921504606846976) (hd : SizedAll d) (ht : tsize t ≤ 1000000000) (hs : SubAt s d w) (h : TysAt w v t.kids) :
    Calls Try.prog 16 #[.agg #[s], tyV t v] w fun e w' => ResT w.heap.size (app d t) e w' ∧ Below w.heap.size w w' := by
  obtain ⟨a, c, rfl⟩ := h.shape
  exact app_ok d hl (fun n x hx => own_ok x.t (hd x (lk_name hx).1)) t ht s a c w hs h
end Go.Proofs.Ytmbaolcdjgilpaa
