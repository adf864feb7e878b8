/- What the printer writes of a type. -/
import Derived.Test.YtlfbmbbfcijedaaPutEach
import Derived.Deep.CutRange
import Derived.Deep.RegionHeld3
import Derived.Deep.DrawnRows
namespace Go.Proofs.Ytlfbmbbfcijedaa
open Go.RowKit
attribute [local go_sem] Oper.semAt_some
attribute [local go_sem ↓] Go.wp_at_zero Go.wp_at_succ

theorem part0 (x : T) (l : List T) (v : Value) (w : World) (hl : TysAt w v (x :: l)) (hn : l.length < 1152921504606846976) :
    Calls Try.prog 30 #[v, .int .i64 0] w fun e w' => (∃ a c, e = .returned (tyV x (.slice a x.kids.length c)) ∧ TysAt w' (.slice a x.kids.length c) x.kids) ∧ Below w.heap.size w w' := by
  refine (part_any (x :: l) 0 v w hl (by simp) (by simp; omega)).mono ?_
  rintro e w' ⟨⟨u, rfl, hu⟩, hb⟩
  obtain ⟨a, c, rfl⟩ := hu.shape
  exact ⟨⟨a, c, rfl, hu⟩, hb⟩
theorem part1 (x y : T) (v : Value) (w : World) (hl : TysAt w v [x, y]) :
    Calls Try.prog 30 #[v, .int .i64 1] w fun e w' => (∃ a c, e = .returned (tyV y (.slice a y.kids.length c)) ∧ TysAt w' (.slice a y.kids.length c) y.kids) ∧ Below w.heap.size w w' := by
  refine (part_any [x, y] 1 v w hl (by simp) (by simp)).mono ?_
  rintro e w' ⟨⟨u, rfl, hu⟩, hb⟩
  obtain ⟨a, c, rfl⟩ := hu.shape
  exact ⟨⟨a, c, rfl, hu⟩, hb⟩

set_option maxHeartbeats 1000000 in
/-- A variable, a constructor: the name, each part behind a blank. -/
theorem putName_of (t : T) (hk : (t.kind = 1) ∨ (t.kind = 2)) (ht : T.text t = t.name.data.toList ++ T.texts t.kids) (H : ∀ k ∈ t.kids, PutOK k) (hl : t.kids.length < 1152921504606846976) : PutOK t := by
  intro b s v w hb hv hn
  obtain ⟨a, c, rfl⟩ := hv.shape
  have hbw := hb.lt
  have HE := Lib.hid (putEach_of t.kids H b)
  have HB := Lib.hid hb; have HV := Lib.hid hv
  have HT := Lib.hid ht
  have hn' : s.length + (t.name.size + (T.texts t.kids).length) ≤ room := by rw [ht, List.length_append, ← Lib.size_eq] at hn; exact hn
  have HN := Lib.hid hn'
  have HNe := Lib.hid (show w.heap.size ≠ b by omega)
  clear H hb hv hn hn' ht
  have e12 : ((t.kind == 1) = true) ∨ ((t.kind == 1) = false ∧ (t.kind == 2) = true) := by
    rcases hk with h | h
    · exact .inl (by simp [h])
    · exact .inr ⟨by simp [h], by simp [h]⟩
  clear hk
  simp only [tyV]
  rcases e12 with e1 | ⟨e1, e2⟩
  all_goals
    go_enter Try.func18, Try.ntmps18
    go_wp2_with (go_at_call 27; refine (write_any b s _ _ (HB.out.alloc _) ?_).mono ?_)
    · have := HN.out; unfold room at this; omega
    rintro e w2 ⟨rfl, h1, h2⟩
    obtain ⟨d0, d1, d2⟩ := three_cells (h2.keeps (alloc_new w _) HNe.out (by decide))
    have H1 := Lib.hid h1
    have H2 := Lib.hid ((PutFr.alloc hbw _).trans h2)
    have HV2 := Lib.hid (HV.out.keep ((keepT_alloc w _).trans (KeepT.of_put h2 (HB.out.alloc _))))
    clear h1 h2
    go_wp2_with (go_at_call 28; refine (HE.out _ _ _ H1.out HV2.out hl ?_).mono ?_)
    · have := HN.out; rw [List.length_append, ← Lib.size_eq]; omega
    rintro e w3 ⟨rfl, h1, h2⟩
    have H3 := Lib.hid h1
    have H4 := Lib.hid h2
    clear h1 h2
    go_wp2
    go_end0
    exact ⟨rfl, by rw [HT.out]; have := H3.out; simpa using this, H2.out.trans H4.out⟩

set_option maxHeartbeats 1000000 in
theorem putAll_of (n : ByteArray) (x : T) (H : PutOK x) : PutOK (.all n x) := by
  intro b s v w hb hv hn
  obtain ⟨a, c, rfl⟩ := hv.shape
  have hbw := hb.lt
  have HB := Lib.hid hb; have HV := Lib.hid hv
  have hn' : s.length + (7 + (n.size + (2 + (T.text x).length))) ≤ room := by rw [T.text] at hn; simp only [List.length_append, ← Lib.size_eq] at hn; exact hn
  have HN := Lib.hid hn'
  have HH := Lib.hid (H b)
  have HNe := Lib.hid (show w.heap.size ≠ b by omega)
  clear H hb hv hn hn'
  simp only [tyV, T.kind, T.name, T.kids] at HH HV ⊢
  go_enter Try.func18, Try.ntmps18
  go_wp2_with (go_at_call 27; refine (write_lit b s [102, 111, 114, 97, 108, 108, 32] _ (HB.out.alloc _) ?_).mono ?_)
  · have := HN.out; simp; omega
  rintro e w2 ⟨⟨v1, rfl⟩, h1, h2⟩
  obtain ⟨d0, d1, d2⟩ := three_cells (h2.keeps (alloc_new w _) HNe.out (by decide))
  have k2 := h2.keeps (alloc_new w _) HNe.out (by decide)
  have K2 := Lib.hid k2; clear k2
  have H1 := Lib.hid h1
  have H2 := Lib.hid ((PutFr.alloc hbw _).trans h2)
  have HV2 := Lib.hid (HV.out.keep ((keepT_alloc w _).trans (KeepT.of_put h2 (HB.out.alloc _))))
  clear h1 h2
  go_wp2_with (go_at_call 27; refine (write_any b _ n _ H1.out ?_).mono ?_)
  · have := HN.out; unfold room at this; simp; omega
  rintro e w3 ⟨rfl, h1, h2⟩
  clear d0 d1 d2
  obtain ⟨d0, d1, d2⟩ := three_cells (h2.keeps K2.out HNe.out (by decide))
  have K3 := Lib.hid (h2.keeps K2.out HNe.out (by decide))
  have H3 := Lib.hid h1
  have H4 := Lib.hid h2
  have HV3 := Lib.hid (HV2.out.keep (KeepT.of_put h2 H1.out))
  clear h1 h2
  go_wp2_with (go_at_call 27; refine (write_lit b _ [46, 32] _ H3.out ?_).mono ?_)
  · have := HN.out; simp only [List.length_append, List.length_cons, List.length_nil, ← Lib.size_eq]; omega
  rintro e w4 ⟨⟨v2, rfl⟩, h1, h2⟩
  clear d0 d1 d2
  obtain ⟨d0, d1, d2⟩ := three_cells (h2.keeps K3.out HNe.out (by decide))
  have H5 := Lib.hid h1
  have H6 := Lib.hid h2
  have HV4 := Lib.hid (HV3.out.keep (KeepT.of_put h2 H3.out))
  clear h1 h2
  go_wp2_with (go_at_call 30; refine (part0 _ _ _ _ HV4.out (by simp)).mono ?_)
  rintro e w5 ⟨⟨a5, c5, rfl, h5⟩, hb5⟩
  have HV5 := Lib.hid h5
  have HB5 := Lib.hid (H5.out.below hb5)
  have H7 := Lib.hid (PutFr.of_below hb5 (Nat.le_of_lt H5.out.lt))
  clear h5 hb5
  simp only [tyV]
  go_wp2_with (go_at_call 18; refine (HH.out _ _ _ HB5.out HV5.out ?_).mono ?_)
  · have := HN.out; simp only [List.length_append, List.length_cons, List.length_nil, ← Lib.size_eq]; omega
  rintro e w6 ⟨rfl, h1, h2⟩
  have H8 := Lib.hid h1
  have H9 := Lib.hid h2
  clear h1 h2
  go_wp2
  go_end0
  refine ⟨rfl, ?_, ((((H2.out.trans H4.out).trans H6.out).trans H7.out).trans H9.out)⟩
  rw [T.text]
  have := H8.out
  simpa [List.append_assoc] using this

theorem alloc_at (w : World) (o : Obj) (k : Nat) : (w.alloc o).heap[k]? = if k = w.heap.size then some o else w.heap[k]? := by
  show (w.heap.push o)[k]? = _
  rw [Array.getElem?_push]
theorem cellD {X : World} {o : Obj} {p : Addr} {v : Value} (h : X.cell? p = some v) : (X.alloc o).cell? p = some v := by
  have hb := World.block_lt_of_cell? _ _ h
  exact (((Below.refl _ X).alloc (Nat.le_refl _) o).cell hb).trans h
theorem cellA {X : World} {o : Obj} {p : Addr} {v : Value} (h : X.drew.cell? p = some v) : (X.alloc o).drew.cell? p = some v := cellD (X := X) h
theorem cellB (X : World) (x y z : Value) (T : TypeId) : (X.alloc (.cells #[x, y, z] T)).drew.cell? ⟨X.heap.size, 2, none⟩ = some z := (three_cells (w := X.alloc (.cells #[x, y, z] T)) (alloc_new X _)).2.2
theorem heap_drew (X : World) : X.drew.heap = X.heap := rfl
theorem KeepT.drew {a b : World} (h : KeepT a b) : KeepT a b.drew := h
theorem KeepT.alloc {a b : World} (h : KeepT a b) (o : Obj) : KeepT a (b.alloc o) := h.trans (keepT_alloc b o)

set_option maxHeartbeats 1000000 in
/-- What 'part' does, to the letter: a block more. -/
theorem part_exact (g cap i n : Nat) (v0 v1 v2 : Value) (t : T) (a : Option Addr) (c : Nat) (w : World) (h0 : v0 = .int .i64 t.kind) (h1 : v1 = .string t.name) (h2 : v2 = .slice a t.kids.length c) (hi : i < n) (_ : n < 4611686018427387904)
    (c0 : w.cell? ⟨g, i * 3, none⟩ = some v0) (c1 : w.cell? ⟨g, i * 3 + 1, none⟩ = some v1) (c2 : w.cell? ⟨g, i * 3 + 2, none⟩ = some v2) (hg : g < w.heap.size) (_ : n ≤ cap) :
    Calls Try.prog 30 #[.slice (some ⟨g, 0, none⟩) n cap, .int .i64 (i : Int)] w fun e w' => e = .returned (.agg #[.int .i64 t.kind, .string t.name, .slice a t.kids.length c]) ∧ w.alloc (.cells #[.int .i64 t.kind, .string t.name, .slice a t.kids.length c] 29) = w' := by
  subst h0 h1 h2
  have hlt : ((i : Int) < (n : Int)) := by omega
  go_enter Try.func30, Try.ntmps30
  go_wp2
  exact bodyPost_ret (v := .agg #[.int .i64 t.kind, .string t.name, .slice a t.kids.length c]) (by simp [results, Try.results30, go_sem]) rfl ⟨rfl, rfl⟩

set_option maxHeartbeats 40000000 in
theorem putFn_of (x y : T) (HX : PutOK x) (HY : PutOK y) : PutOK (.fn x y) := by
  intro b s v w hb hv hn
  have hbw := hb.lt
  obtain ⟨g, cap, rfl, hg, hcap, hrow⟩ := hv.row (by simp [T.kids])
  obtain ⟨a2, c2, x0, x1, x2, xk⟩ := hrow 0 (by simp [T.kids])
  obtain ⟨a3, c3, y0, y1, y2, yk⟩ := hrow 1 (by simp [T.kids])
  have HB := Lib.hid hb
  have hn' : s.length + ((T.br x.arrow (T.text x)).length + (4 + (T.text y).length)) ≤ room := by rw [T.text] at hn; simp only [List.length_append] at hn; exact hn
  have HN := Lib.hid hn'
  have HR := Lib.hid (putBracketed_any x HX x.arrow b)
  have HH := Lib.hid (HY b)
  have HNe := Lib.hid (show w.heap.size ≠ b by omega)
  have HA := Lib.hid (show ((x.kind == 3) = true ∧ x.arrow = true) ∨ ((x.kind == 3) = false ∧ (x.kind == 4) = true ∧ x.arrow = true) ∨ ((x.kind == 3) = false ∧ (x.kind == 4) = false ∧ x.arrow = false) by
    cases x with
    | var n => exact .inr (.inr ⟨rfl, rfl, rfl⟩)
    | con n l => exact .inr (.inr ⟨rfl, rfl, rfl⟩)
    | fn a b => exact .inl ⟨rfl, rfl⟩
    | all n a => exact .inr (.inl ⟨rfl, rfl, rfl⟩))
  have f1 : (T.fn x y).kind = 3 := rfl
  have f2 : (T.fn x y).name = ⟨#[]⟩ := rfl
  have f3 : (T.fn x y).kids = [x, y] := rfl
  have f4 : (T.fn x y).kids.length = 2 := rfl
  have XK := Lib.hid xk; have YK := Lib.hid yk
  rw [f4] at hcap ⊢
  have HK := Lib.hid (fun (W : World) (k : Below w.heap.size w W) => part_exact g cap 0 2 _ _ _ x a2 c2 W rfl rfl rfl (by decide) (by decide) ((k.cell (p := ⟨g, 0 * 3, none⟩) hg).trans x0) ((k.cell (p := ⟨g, 0 * 3 + 1, none⟩) hg).trans x1) ((k.cell (p := ⟨g, 0 * 3 + 2, none⟩) hg).trans x2) (Nat.lt_of_lt_of_le hg k.size) hcap)
  have HL := Lib.hid (fun (W : World) (k : Below w.heap.size w W) => part_exact g cap 1 2 _ _ _ y a3 c3 W rfl rfl rfl (by decide) (by decide) ((k.cell (p := ⟨g, 1 * 3, none⟩) hg).trans y0) ((k.cell (p := ⟨g, 1 * 3 + 1, none⟩) hg).trans y1) ((k.cell (p := ⟨g, 1 * 3 + 2, none⟩) hg).trans y2) (Nat.lt_of_lt_of_le hg k.size) hcap)
  simp only [tyV, f1, f2, Int.natCast_zero, Int.natCast_one] at HH HR HK HL ⊢
  clear f1 f2 f3 f4 HX HY hb hv hn hn' x0 x1 x2 y0 y1 y2 xk yk hrow
  go_enter Try.func18, Try.ntmps18
  go_upto_region 7 with fail
  go_cut [4, 5] from 21 (fun p4 p5 W => ∃ q r, p4 = .pointer (some ⟨q, 0, none⟩) ∧ p5 = .pointer (some ⟨r, 0, none⟩) ∧ (q ≠ b ∧ r ≠ b) ∧ Hid (W.heap[q]? = some (.cells #[.int .i64 x.kind, .string x.name, .slice a2 x.kids.length c2] 29 (0, 0))) ∧ Hid (W.heap[r]? = some (.cells #[.int .i64 y.kind, .string y.name, .slice a3 y.kids.length c3] 29 (0, 0))) ∧ Hid (Below w.heap.size w W))
  case first =>
    go_region_held3 (fun W => W.cell? ⟨w.heap.size, 2, none⟩ = some (.slice (some ⟨g, 0, none⟩) 2 cap)) (first | exact cellB _ _ _ _ _ | exact cellA (cellB _ _ _ _ _) | exact cellA (cellA (cellB _ _ _ _ _)) | exact cellA (cellA (cellA (cellB _ _ _ _ _))) | exact cellA (cellA (cellA (cellA (cellB _ _ _ _ _)))) | exact cellA (cellA (cellA (cellA (cellA (cellB _ _ _ _ _)))))) (first
      | (go_at_call_of 30 (Value.int .i64 0); refine (HK.out _ ?kk).mono ?_; (case kk => (repeat (first | exact Below.refl _ _ | refine Below.drew ?_ | refine Below.alloc ?_ (by simp; try omega) _))); rintro e W2 ⟨rfl, rfl⟩)
      | (go_at_call_of 30 (Value.int .i64 1); refine (HL.out _ ?kk).mono ?_; (case kk => (repeat (first | exact Below.refl _ _ | refine Below.drew ?_ | refine Below.alloc ?_ (by simp; try omega) _))); rintro e W2 ⟨rfl, rfl⟩))
    all_goals (go_wp2_with fail)
    all_goals go_meet
    all_goals
      refine ⟨_, _, rfl, rfl, ⟨by omega, by omega⟩, Lib.hid (by rw [heap_drew]; simp only [alloc_at, World.size_alloc]; simp), Lib.hid (by rw [heap_drew]; simp only [alloc_at, World.size_alloc]; simp), Lib.hid ?_⟩
      repeat (first | exact Below.refl _ _ | refine Below.drew ?_ | refine Below.alloc ?_ (by simp; try omega) _)
  case rest =>
    obtain ⟨q, r, rfl, rfl, ⟨hq, hr⟩, WQ, WR, WB⟩ := hcut
    obtain ⟨d0, d1, d2⟩ := three_cells WQ.out
    have hwb : b < wc.heap.size := Nat.lt_of_lt_of_le hbw WB.out.size
    have HBc := Lib.hid (HB.out.below WB.out)
    have H0 := Lib.hid (PutFr.of_below WB.out (Nat.le_of_lt hbw))
    have XKc := Lib.hid (XK.out.keep (KeepT.of_below WB.out))
    have YKc := Lib.hid (YK.out.keep (KeepT.of_below WB.out))
    have HQ := Lib.hid hq
    have HRb := Lib.hid hr
    clear hq hr
    rcases HA.out with ⟨e3, ea⟩ | ⟨e3, e4, ea⟩ | ⟨e3, e4, ea⟩
    all_goals
      rw [ea] at HR HN
      clear HA
      go_wp2_with (go_at_call 31; refine (HR.out _ _ _ HBc.out XKc.out ?_).mono ?_)
      · have := HN.out; omega
      rintro e w2 ⟨rfl, h1, h2⟩
      have H1 := Lib.hid h1
      have H2 := Lib.hid h2
      have YK2 := Lib.hid (YKc.out.keep (KeepT.of_put h2 HBc.out))
      have WR2 := Lib.hid (h2.keeps WR.out HRb.out (by decide))
      clear h1 h2
      go_wp2_with (go_at_call 27; refine (write_lit b _ [32, 45, 62, 32] _ H1.out ?_).mono ?_)
      · have := HN.out; simp only [List.length_append, List.length_cons, List.length_nil]; omega
      rintro e w3 ⟨⟨v1, rfl⟩, h1, h2⟩
      have H3 := Lib.hid h1
      have H4 := Lib.hid h2
      have YK3 := Lib.hid (YK2.out.keep (KeepT.of_put h2 H1.out))
      obtain ⟨y0, y1, y2⟩ := three_cells (h2.keeps WR2.out HRb.out (by decide))
      clear h1 h2
      go_wp2_with (go_at_call 18; refine (HH.out _ _ _ H3.out YK3.out ?_).mono ?_)
      · have := HN.out; simp only [List.length_append, List.length_cons, List.length_nil]; omega
      rintro e w4 ⟨rfl, h1, h2⟩
      have H5 := Lib.hid h1
      have H6 := Lib.hid h2
      clear h1 h2
      go_wp2
      go_end0
      refine ⟨rfl, ?_, ((H0.out.trans H2.out).trans H4.out).trans H6.out⟩
      rw [T.text, ea]
      have := H5.out
      simpa only [List.append_assoc] using this
end Go.Proofs.Ytlfbmbbfcijedaa
