/- All of a text, read as one expression. -/
import Derived.Test.YtdooeghicdaakaaGreatDoorParExpr
import Derived.Test.YtdooeghicdaakaaGreatDoorToks
import Derived.Test.YtdooeghicdaakaaGreatDoorPlacesPlain
import Derived.BigRegion
namespace Go.Proofs.YtdooeghicdaakaaGreatDoor
open Go.RowKit
attribute [local go_sem] Oper.semAt_some field_tok0 field_tok1 field_tok2

def wdOf (s : ByteArray) (t : Tok) : Wd := ⟨t.kind, t.pos, (s.extract t.pos s.size).extract 0 t.len, t.num⟩
def cxOf (s : ByteArray) (ts : List Tok) : Cx := ⟨ts.map (wdOf s), s.size⟩
def lastS (c : Cx) (s : St) : St := if s.next = c.ws.length then s else wrongS c s
def wholeP (c : Cx) (rd : St → E × St) : E × Option (Int × Bool) :=
  match (lastS c (rd ⟨0, 0, none⟩).2).fault with
  | none => ((rd ⟨0, 0, none⟩).1, none)
  | some f => (E.zero, some f)
abbrev zeroV : Value := .agg #[.int .i64 0, .int .i64 0, .string ⟨#[]⟩, .int .i64 0, .slice none 0 0, .slice none 0 0, .slice none 0 0]
/-- What reading all of a text hands back. -/
def WholePost (aX : Addr) (q : Er) (er : Option Nat) (r : E × Option (Int × Bool)) (w : World) (e : Ending) (W : World) : Prop := Below w.heap.size w W ∧
  ((∃ p b, er = some p ∧ e = .returned (.tuple #[zeroV, errVal b]) ∧ AtBlock W b p (errL aX)) ∨
   (er = none ∧ r.2 = none ∧ ∃ p1 n1 p2 n2 p3 n3, e = .returned (.tuple #[exV r.1 (.slice p1 r.1.kids.length n1) (.slice p2 r.1.alts.length n2) (.slice p3 r.1.binds.length n3), .nilIface]) ∧ ExIn (From w.heap.size) W r.1 (.slice p1 r.1.kids.length n1) (.slice p2 r.1.alts.length n2) (.slice p3 r.1.binds.length n3)) ∨
   (∃ p lim b, er = none ∧ r.2 = some (p, lim) ∧ e = .returned (.tuple #[zeroV, errVal b]) ∧ W.heap[b]? = some (.cells #[.int .i64 p, errOf q lim] 90 (0, 0))))

theorem words_of_row {W : World} {base R : Nat} {v : Value} {s : ByteArray} {ts : List Tok} (h : W.ownsRow base 52 4 v ts.length (rowOf s ts)) (hR : W.heap.size ≤ R) : WordsAt R W v (ts.map (wdOf s)) := by
  rcases row_toks h with ⟨rfl, rfl⟩ | ⟨g, cap, rfl, _, hg, hc, ht⟩
  · exact ⟨none, 0, rfl, .inl rfl⟩
  · refine ⟨_, cap, by simp, .inr ⟨g, rfl, by simpa using hc, by omega, fun i hi => ?_⟩⟩
    have hi' : i < ts.length := by simpa using hi
    have := ht i hi'
    simpa [wdOf] using this
theorem rd_new {c : Cx} {q : Er} {w : World} {v : Value} (hw : WordsAt w.heap.size w v c.ws) (he : TwoErrs w q.aP q.aL) (hl : c.ws.length ≤ 20000) :
    Rd c q w.heap.size ⟨0, 0, none⟩ (w.alloc (.cells #[v, .int .i64 0, .int .i64 c.len, .int .i64 0, .nilIface] 50)) := by
  have hb : Below w.heap.size w (w.alloc (.cells #[v, .int .i64 0, .int .i64 c.len, .int .i64 0, .nilIface] 50)) := (Below.refl _ w).alloc (Nat.le_refl _) _
  have g1 := World.block_lt_of_cell? _ _ he.1
  have g2 := World.block_lt_of_cell? _ _ he.2
  exact ⟨⟨v, .nilIface, World.alloc_heap_new w _, hw.keep hb, rfl⟩, ⟨(hb.cell (p := ⟨0, 0, none⟩) g1).trans he.1, (hb.cell (p := ⟨1, 0, none⟩) g2).trans he.2⟩, ⟨g1, g2⟩, Nat.zero_le _, Nat.zero_le _, hl⟩

set_option maxRecDepth 100000 in
set_option maxHeartbeats 8000000 in
theorem whole_any (v : Value) (s : ByteArray) (hs : s.size ≤ 20000) (aX : Addr) (q : Er) (ts : List Tok) (er : Option Nat) (hr : Runs s.data.toList (skipTo s.data.toList 0) ts er) (rd : St → E × St)
    (h : ∀ R, TreeOK (cxOf s ts) q R 8 ⟨0, 0, none⟩ (rd ⟨0, 0, none⟩)) (w : World) (hv : BytesAt w v s) (hX : w.cell? ⟨2, 0, none⟩ = some (errL aX)) (hT : TwoErrs w q.aP q.aL) :
    Calls Tryz.prog 7 #[v, .func (.func 8) #[] #[]] w (WholePost aX q er (wholeP (cxOf s ts) rd) w) := by
  have hlen : ts.length ≤ 20000 := by have := runs_length _ _ _ _ hr; rw [length_data] at this; omega
  have hwl : (cxOf s ts).ws.length = ts.length := by simp [cxOf]
  have HB := Lib.hid (fun o : Obj => (Below.refl w.heap.size w).alloc (Nat.le_refl _) o)
  have HT := Lib.hid hT
  obtain ⟨va, vc, rfl, _⟩ := id hv
  have HSp := Lib.hid (fun (W : World) (hb : Below w.heap.size w W) => split_any _ s hs aX ts er hr W (hv.later hb) ((hb.cell (p := ⟨2, 0, none⟩) (World.block_lt_of_cell? _ _ hX)).trans hX))
  have HH := Lib.hid h
  clear h hT hv hX hr
  have HL := Lib.hid hlen; have HWl := Lib.hid hwl
  clear hlen hwl
  cases er with
  | some p =>
    go_enter Tryz.func7, Tryz.ntmps7
    go_wp2_with fail
    refine (HSp.out _ (HB.out _)).mono ?_
    rintro e W ⟨hb, (⟨h, _⟩ | ⟨p', b, h, rfl, hat⟩)⟩
    · cases h
    · cases h
      have hk := (hb.block w.heap.size (by simp)).trans (World.alloc_heap_new w _)
      obtain ⟨k0, k1, k2', k3', k4', k5', k6'⟩ := cells7 hk
      have kf := fun i => Lib.frozen_of_heap hk i
      have K := Lib.hid hk; have HAt := Lib.hid hat
      have B1 := Lib.hid ((HB.out _).trans (hb.mono (by simp)))
      clear hb hk hat
      unfold errVal
      go_wp2
      exact bodyPost_ret (v := .tuple #[zeroV, errVal b]) (by simp [results, Tryz.results7, go_sem, errVal, k0, k1, k2', k3', k4', k5', k6']) rfl
        ⟨below_set7 B1.out (Nat.le_refl _), .inl ⟨p, b, rfl, rfl, keep_set7 _ _ _ _ _ _ _ (blk_ne K.out HAt.out (by decide)) HAt.out⟩⟩
  | none =>
    obtain ⟨r, hr⟩ : ∃ r, rd ⟨0, 0, none⟩ = r := ⟨_, rfl⟩
    unfold wholeP
    rw [hr] at HH ⊢
    clear hr
    obtain ⟨y, s2⟩ := r
    simp only at HH ⊢
    obtain ⟨sL, hsL⟩ : ∃ sL, lastS (cxOf s ts) s2 = sL := ⟨_, rfl⟩
    rw [hsL]
    have HsL := Lib.hid hsL
    clear hsL
    cases hfl : sL.fault with
    | none =>
      simp only
      by_cases hend : s2.next = (cxOf s ts).ws.length
      · have HE := Lib.hid (fun R W (h : Rd (cxOf s ts) q R s2 W) => ended_any (cxOf s ts) q R s2 W h)
        rw [show decide (s2.next = (cxOf s ts).ws.length) = true by simpa using hend] at HE
        obtain rfl : s2 = sL := by have := HsL.out; rwa [lastS, if_pos hend] at this
        clear HsL hend
        go_enter Tryz.func7, Tryz.ntmps7
        go_wp2_with fail
        refine (HSp.out _ (HB.out _)).mono ?_
        rintro e W ⟨hb, (⟨_, u, rfl, hrow⟩ | ⟨p', b, h, _⟩)⟩
        rotate_left
        · cases h
        obtain ⟨ua, uc, rfl⟩ := row_shape hrow
        have kW := (hb.block w.heap.size (by simp)).trans (World.alloc_heap_new w _)
        have lW : w.heap.size < W.heap.size := (Array.getElem?_eq_some_iff.1 kW).1
        have BW := Lib.hid ((HB.out _).trans (hb.mono (by simp)))
        have RD0 := Lib.hid (rd_new (c := cxOf s ts) (q := q) (words_of_row hrow (Nat.le_refl _)) ⟨(BW.out.cell (p := ⟨0, 0, none⟩) (World.block_lt_of_cell? _ _ HT.out.1)).trans HT.out.1, (BW.out.cell (p := ⟨1, 0, none⟩) (World.block_lt_of_cell? _ _ HT.out.2)).trans HT.out.2⟩ (by rw [HWl.out]; exact HL.out))
        have KW := Lib.hid kW
        clear hb hrow kW
        go_wp2_with (first
          | (go_at_call 8; refine (HH.out _ _ RD0.out).mono ?_; rintro e3 w3 ⟨⟨p1, n1, p2, n2, p3, n3, rfl, hx3⟩, h3, f3⟩; have k3 := f3.2 _ _ ((Below.heap_alloc W _ _ lW).trans KW.out) (by omega); have l3 : w.heap.size < w3.heap.size := (Array.getElem?_eq_some_iff.1 k3).1; have X3 := Lib.hid hx3; have H3 := Lib.hid h3; have K3 := Lib.hid k3; have B3 := Lib.hid (((BW.out.alloc (Nat.le_of_lt lW) _).trans (f3.1.mono (Nat.le_of_lt lW)))); clear hx3 h3 f3 k3; unfold exV)
          | (go_at_call 14; refine (HE.out _ _ (H3.out.alloc _)).mono ?_; rintro e4 w4 ⟨rfl, hb4⟩; have H4 := Lib.hid ((H3.out.alloc (.cells #[.int .i64 y.kind, .int .i64 y.pos, .string y.name, .int .i64 y.num, .slice p1 y.kids.length n1, .slice p2 y.alts.length n2, .slice p3 y.binds.length n3] 28)).below hb4); have B4 := Lib.hid ((B3.out.alloc (by have := B3.out.size; omega) (.cells #[.int .i64 y.kind, .int .i64 y.pos, .string y.name, .int .i64 y.num, .slice p1 y.kids.length n1, .slice p2 y.alts.length n2, .slice p3 y.binds.length n3] 28)).trans (hb4.mono (by have := B3.out.size; simp; omega))); have X4 := Lib.hid ((X3.out.keep (keep_of_below ((Below.refl _ w3).alloc (Nat.le_refl _) (.cells #[.int .i64 y.kind, .int .i64 y.pos, .string y.name, .int .i64 y.num, .slice p1 y.kids.length n1, .slice p2 y.alts.length n2, .slice p3 y.binds.length n3] 28)))).keep (keep_of_below hb4)); have K4 := Lib.hid ((hb4.block _ (by simp; omega)).trans ((Below.heap_alloc w3 _ _ l3).trans K3.out)); have Y4 := Lib.hid ((hb4.block w3.heap.size (by simp)).trans (World.alloc_heap_new w3 _)); clear hb4; obtain ⟨k0, k1, k2', k3', k4', k5', k6'⟩ := cells7 K4.out; obtain ⟨y0, y1, y2, y3, y4, y5, y6⟩ := cells7 Y4.out; have kf := fun i => Lib.frozen_of_heap K4.out i; obtain ⟨a5, cap5, fv5, ⟨_, _, _, _, d4⟩, _, _, hF5, _⟩ := H4.out.open; rw [hfl] at hF5; obtain rfl := fault_none hF5))
        go_wp2
        exact bodyPost_ret (v := .tuple #[exV y (.slice p1 y.kids.length n1) (.slice p2 y.alts.length n2) (.slice p3 y.binds.length n3), .nilIface]) (by simp [results, Tryz.results7, go_sem, exV, k0, k1, k2', k3', k4', k5', k6']) rfl
          ⟨below_set7 B4.out (Nat.le_refl _), .inr (.inl ⟨rfl, rfl, p1, n1, p2, n2, p3, n3, rfl, X4.out.laid (by simp; omega) _ (by simp; omega) _ _ _ _ _ _ _⟩)⟩
      · have HE := Lib.hid (fun R W (h : Rd (cxOf s ts) q R s2 W) => ended_any (cxOf s ts) q R s2 W h)
        rw [show decide (s2.next = (cxOf s ts).ws.length) = false by simpa using hend] at HE
        obtain rfl : wrongS (cxOf s ts) s2 = sL := by have := HsL.out; rwa [lastS, if_neg hend] at this
        have HWr := Lib.hid (fun R W (h : Rd (cxOf s ts) q R s2 W) => wrong_any (cxOf s ts) q R s2 W h)
        clear HsL hend
        go_enter Tryz.func7, Tryz.ntmps7
        go_wp2_with fail
        refine (HSp.out _ (HB.out _)).mono ?_
        rintro e W ⟨hb, (⟨_, u, rfl, hrow⟩ | ⟨p', b, h, _⟩)⟩
        rotate_left
        · cases h
        obtain ⟨ua, uc, rfl⟩ := row_shape hrow
        have kW := (hb.block w.heap.size (by simp)).trans (World.alloc_heap_new w _)
        have lW : w.heap.size < W.heap.size := (Array.getElem?_eq_some_iff.1 kW).1
        have BW := Lib.hid ((HB.out _).trans (hb.mono (by simp)))
        have RD0 := Lib.hid (rd_new (c := cxOf s ts) (q := q) (words_of_row hrow (Nat.le_refl _)) ⟨(BW.out.cell (p := ⟨0, 0, none⟩) (World.block_lt_of_cell? _ _ HT.out.1)).trans HT.out.1, (BW.out.cell (p := ⟨1, 0, none⟩) (World.block_lt_of_cell? _ _ HT.out.2)).trans HT.out.2⟩ (by rw [HWl.out]; exact HL.out))
        have KW := Lib.hid kW
        clear hb hrow kW
        go_wp2_with (first
          | (go_at_call 8; refine (HH.out _ _ RD0.out).mono ?_; rintro e3 w3 ⟨⟨p1, n1, p2, n2, p3, n3, rfl, hx3⟩, h3, f3⟩; have k3 := f3.2 _ _ ((Below.heap_alloc W _ _ lW).trans KW.out) (by omega); have l3 : w.heap.size < w3.heap.size := (Array.getElem?_eq_some_iff.1 k3).1; have X3 := Lib.hid hx3; have H3 := Lib.hid h3; have K3 := Lib.hid k3; have B3 := Lib.hid (((BW.out.alloc (Nat.le_of_lt lW) _).trans (f3.1.mono (Nat.le_of_lt lW)))); clear hx3 h3 f3 k3; unfold exV)
          | (go_at_call 14; refine (HE.out _ _ (H3.out.alloc _)).mono ?_; rintro e4 w4 ⟨rfl, hb4⟩; have H4 := Lib.hid ((H3.out.alloc (.cells #[.int .i64 y.kind, .int .i64 y.pos, .string y.name, .int .i64 y.num, .slice p1 y.kids.length n1, .slice p2 y.alts.length n2, .slice p3 y.binds.length n3] 28)).below hb4); have B4 := Lib.hid ((B3.out.alloc (by have := B3.out.size; omega) (.cells #[.int .i64 y.kind, .int .i64 y.pos, .string y.name, .int .i64 y.num, .slice p1 y.kids.length n1, .slice p2 y.alts.length n2, .slice p3 y.binds.length n3] 28)).trans (hb4.mono (by have := B3.out.size; simp; omega))); have X4 := Lib.hid ((X3.out.keep (keep_of_below ((Below.refl _ w3).alloc (Nat.le_refl _) (.cells #[.int .i64 y.kind, .int .i64 y.pos, .string y.name, .int .i64 y.num, .slice p1 y.kids.length n1, .slice p2 y.alts.length n2, .slice p3 y.binds.length n3] 28)))).keep (keep_of_below hb4)); have K4 := Lib.hid ((hb4.block _ (by simp; omega)).trans ((Below.heap_alloc w3 _ _ l3).trans K3.out)); have Y4 := Lib.hid ((hb4.block w3.heap.size (by simp)).trans (World.alloc_heap_new w3 _)); clear hb4))
        refine (HWr.out _ _ H4.out).mono ?_
        rintro e5 w5 ⟨rfl, h5, f5⟩
        have H5 := Lib.hid h5
        have B5 := Lib.hid (B4.out.trans (f5.1.mono (Nat.le_of_lt lW)))
        have X5 := Lib.hid (X4.out.keep (keep_of_fr f5 (by simp)))
        have K5 := Lib.hid (f5.2 _ _ K4.out (by omega))
        have Y5 := Lib.hid (f5.2 _ _ Y4.out (by have := H3.out.lt; omega))
        clear h5 f5
        obtain ⟨k0, k1, k2', k3', k4', k5', k6'⟩ := cells7 K5.out
        obtain ⟨y0, y1, y2, y3, y4, y5, y6⟩ := cells7 Y5.out
        have kf := fun i => Lib.frozen_of_heap K5.out i
        obtain ⟨a5, cap5, fv5, ⟨_, _, _, _, d4⟩, _, _, hF5, _⟩ := H5.out.open
        rw [hfl] at hF5
        obtain rfl := fault_none hF5
        go_wp2
        exact bodyPost_ret (v := .tuple #[exV y (.slice p1 y.kids.length n1) (.slice p2 y.alts.length n2) (.slice p3 y.binds.length n3), .nilIface]) (by simp [results, Tryz.results7, go_sem, exV, k0, k1, k2', k3', k4', k5', k6']) rfl
          ⟨below_set7 B5.out (Nat.le_refl _), .inr (.inl ⟨rfl, rfl, p1, n1, p2, n2, p3, n3, rfl, X5.out.laid (by simp; omega) _ (by simp; omega) _ _ _ _ _ _ _⟩)⟩
    | some f5 =>
      obtain ⟨fp, flim⟩ := f5
      simp only
      by_cases hend : s2.next = (cxOf s ts).ws.length
      · have HE := Lib.hid (fun R W (h : Rd (cxOf s ts) q R s2 W) => ended_any (cxOf s ts) q R s2 W h)
        rw [show decide (s2.next = (cxOf s ts).ws.length) = true by simpa using hend] at HE
        obtain rfl : s2 = sL := by have := HsL.out; rwa [lastS, if_pos hend] at this
        clear HsL hend
        go_enter Tryz.func7, Tryz.ntmps7
        go_wp2_with fail
        refine (HSp.out _ (HB.out _)).mono ?_
        rintro e W ⟨hb, (⟨_, u, rfl, hrow⟩ | ⟨p', b, h, _⟩)⟩
        rotate_left
        · cases h
        obtain ⟨ua, uc, rfl⟩ := row_shape hrow
        have kW := (hb.block w.heap.size (by simp)).trans (World.alloc_heap_new w _)
        have lW : w.heap.size < W.heap.size := (Array.getElem?_eq_some_iff.1 kW).1
        have BW := Lib.hid ((HB.out _).trans (hb.mono (by simp)))
        have RD0 := Lib.hid (rd_new (c := cxOf s ts) (q := q) (words_of_row hrow (Nat.le_refl _)) ⟨(BW.out.cell (p := ⟨0, 0, none⟩) (World.block_lt_of_cell? _ _ HT.out.1)).trans HT.out.1, (BW.out.cell (p := ⟨1, 0, none⟩) (World.block_lt_of_cell? _ _ HT.out.2)).trans HT.out.2⟩ (by rw [HWl.out]; exact HL.out))
        have KW := Lib.hid kW
        clear hb hrow kW
        go_wp2_with (first
          | (go_at_call 8; refine (HH.out _ _ RD0.out).mono ?_; rintro e3 w3 ⟨⟨p1, n1, p2, n2, p3, n3, rfl, hx3⟩, h3, f3⟩; have k3 := f3.2 _ _ ((Below.heap_alloc W _ _ lW).trans KW.out) (by omega); have l3 : w.heap.size < w3.heap.size := (Array.getElem?_eq_some_iff.1 k3).1; have X3 := Lib.hid hx3; have H3 := Lib.hid h3; have K3 := Lib.hid k3; have B3 := Lib.hid (((BW.out.alloc (Nat.le_of_lt lW) _).trans (f3.1.mono (Nat.le_of_lt lW)))); clear hx3 h3 f3 k3; unfold exV)
          | (go_at_call 14; refine (HE.out _ _ (H3.out.alloc _)).mono ?_; rintro e4 w4 ⟨rfl, hb4⟩; have H4 := Lib.hid ((H3.out.alloc (.cells #[.int .i64 y.kind, .int .i64 y.pos, .string y.name, .int .i64 y.num, .slice p1 y.kids.length n1, .slice p2 y.alts.length n2, .slice p3 y.binds.length n3] 28)).below hb4); have B4 := Lib.hid ((B3.out.alloc (by have := B3.out.size; omega) (.cells #[.int .i64 y.kind, .int .i64 y.pos, .string y.name, .int .i64 y.num, .slice p1 y.kids.length n1, .slice p2 y.alts.length n2, .slice p3 y.binds.length n3] 28)).trans (hb4.mono (by have := B3.out.size; simp; omega))); have X4 := Lib.hid ((X3.out.keep (keep_of_below ((Below.refl _ w3).alloc (Nat.le_refl _) (.cells #[.int .i64 y.kind, .int .i64 y.pos, .string y.name, .int .i64 y.num, .slice p1 y.kids.length n1, .slice p2 y.alts.length n2, .slice p3 y.binds.length n3] 28)))).keep (keep_of_below hb4)); have K4 := Lib.hid ((hb4.block _ (by simp; omega)).trans ((Below.heap_alloc w3 _ _ l3).trans K3.out)); have Y4 := Lib.hid ((hb4.block w3.heap.size (by simp)).trans (World.alloc_heap_new w3 _)); clear hb4; obtain ⟨k0, k1, k2', k3', k4', k5', k6'⟩ := cells7 K4.out; obtain ⟨y0, y1, y2, y3, y4, y5, y6⟩ := cells7 Y4.out; have kf := fun i => Lib.frozen_of_heap K4.out i; obtain ⟨a5, cap5, fv5, ⟨_, _, _, _, d4⟩, _, _, hF5, _⟩ := H4.out.open; rw [hfl] at hF5; obtain ⟨b5, rfl, hb5⟩ := hF5; have HB5 := Lib.hid hb5; clear hb5; unfold errVal at d4))
        go_region
        all_goals go_wp2
        all_goals
          have hh := keep_set7 (w := w4) (.int .i64 0) (.int .i64 0) (.string ⟨#[]⟩) (.int .i64 0) (.slice none 0 0) (.slice none 0 0) (.slice none 0 0) (blk_ne K4.out HB5.out (by decide)) HB5.out
          have bb := below_set7 (v0 := .int .i64 0) (v1 := .int .i64 0) (v2 := .string ⟨#[]⟩) (v3 := .int .i64 0) (v4 := .slice none 0 0) (v5 := .slice none 0 0) (v6 := .slice none 0 0) B4.out (Nat.le_refl w.heap.size)
          obtain ⟨Z, hZ⟩ : ∃ Z, (((((((World.setCell w4 ⟨w.heap.size, 0, none⟩ (.int .i64 0)).setCell ⟨w.heap.size, 1, none⟩ (.int .i64 0)).setCell ⟨w.heap.size, 2, none⟩ (.string ⟨#[]⟩)).setCell ⟨w.heap.size, 3, none⟩ (.int .i64 0)).setCell ⟨w.heap.size, 4, none⟩ (.slice none 0 0)).setCell ⟨w.heap.size, 5, none⟩ (.slice none 0 0)).setCell ⟨w.heap.size, 6, none⟩ (.slice none 0 0)) = Z := ⟨_, rfl⟩
          have hzz := block_set7 K4.out (.int .i64 0) (.int .i64 0) (.string ⟨#[]⟩) (.int .i64 0) (.slice none 0 0) (.slice none 0 0) (.slice none 0 0)
          rw [hZ] at hh bb hzz ⊢
          clear hZ k0 k1 k2' k3' k4' k5' k6' kf
          obtain ⟨k0, k1, k2', k3', k4', k5', k6'⟩ := cells7 hzz
          refine bodyPost_ret (v := .tuple #[zeroV, errVal b5]) (by simp [results, Tryz.results7, go_sem, errVal, k0, k1, k2', k3', k4', k5', k6']) rfl ?_
          exact ⟨bb.drew, .inr (.inr ⟨fp, flim, b5, rfl, rfl, rfl, hh⟩)⟩
      · have HE := Lib.hid (fun R W (h : Rd (cxOf s ts) q R s2 W) => ended_any (cxOf s ts) q R s2 W h)
        rw [show decide (s2.next = (cxOf s ts).ws.length) = false by simpa using hend] at HE
        obtain rfl : wrongS (cxOf s ts) s2 = sL := by have := HsL.out; rwa [lastS, if_neg hend] at this
        have HWr := Lib.hid (fun R W (h : Rd (cxOf s ts) q R s2 W) => wrong_any (cxOf s ts) q R s2 W h)
        clear HsL hend
        go_enter Tryz.func7, Tryz.ntmps7
        go_wp2_with fail
        refine (HSp.out _ (HB.out _)).mono ?_
        rintro e W ⟨hb, (⟨_, u, rfl, hrow⟩ | ⟨p', b, h, _⟩)⟩
        rotate_left
        · cases h
        obtain ⟨ua, uc, rfl⟩ := row_shape hrow
        have kW := (hb.block w.heap.size (by simp)).trans (World.alloc_heap_new w _)
        have lW : w.heap.size < W.heap.size := (Array.getElem?_eq_some_iff.1 kW).1
        have BW := Lib.hid ((HB.out _).trans (hb.mono (by simp)))
        have RD0 := Lib.hid (rd_new (c := cxOf s ts) (q := q) (words_of_row hrow (Nat.le_refl _)) ⟨(BW.out.cell (p := ⟨0, 0, none⟩) (World.block_lt_of_cell? _ _ HT.out.1)).trans HT.out.1, (BW.out.cell (p := ⟨1, 0, none⟩) (World.block_lt_of_cell? _ _ HT.out.2)).trans HT.out.2⟩ (by rw [HWl.out]; exact HL.out))
        have KW := Lib.hid kW
        clear hb hrow kW
        go_wp2_with (first
          | (go_at_call 8; refine (HH.out _ _ RD0.out).mono ?_; rintro e3 w3 ⟨⟨p1, n1, p2, n2, p3, n3, rfl, hx3⟩, h3, f3⟩; have k3 := f3.2 _ _ ((Below.heap_alloc W _ _ lW).trans KW.out) (by omega); have l3 : w.heap.size < w3.heap.size := (Array.getElem?_eq_some_iff.1 k3).1; have X3 := Lib.hid hx3; have H3 := Lib.hid h3; have K3 := Lib.hid k3; have B3 := Lib.hid (((BW.out.alloc (Nat.le_of_lt lW) _).trans (f3.1.mono (Nat.le_of_lt lW)))); clear hx3 h3 f3 k3; unfold exV)
          | (go_at_call 14; refine (HE.out _ _ (H3.out.alloc _)).mono ?_; rintro e4 w4 ⟨rfl, hb4⟩; have H4 := Lib.hid ((H3.out.alloc (.cells #[.int .i64 y.kind, .int .i64 y.pos, .string y.name, .int .i64 y.num, .slice p1 y.kids.length n1, .slice p2 y.alts.length n2, .slice p3 y.binds.length n3] 28)).below hb4); have B4 := Lib.hid ((B3.out.alloc (by have := B3.out.size; omega) (.cells #[.int .i64 y.kind, .int .i64 y.pos, .string y.name, .int .i64 y.num, .slice p1 y.kids.length n1, .slice p2 y.alts.length n2, .slice p3 y.binds.length n3] 28)).trans (hb4.mono (by have := B3.out.size; simp; omega))); have X4 := Lib.hid ((X3.out.keep (keep_of_below ((Below.refl _ w3).alloc (Nat.le_refl _) (.cells #[.int .i64 y.kind, .int .i64 y.pos, .string y.name, .int .i64 y.num, .slice p1 y.kids.length n1, .slice p2 y.alts.length n2, .slice p3 y.binds.length n3] 28)))).keep (keep_of_below hb4)); have K4 := Lib.hid ((hb4.block _ (by simp; omega)).trans ((Below.heap_alloc w3 _ _ l3).trans K3.out)); have Y4 := Lib.hid ((hb4.block w3.heap.size (by simp)).trans (World.alloc_heap_new w3 _)); clear hb4))
        refine (HWr.out _ _ H4.out).mono ?_
        rintro e5 w5 ⟨rfl, h5, f5⟩
        have H5 := Lib.hid h5
        have B5 := Lib.hid (B4.out.trans (f5.1.mono (Nat.le_of_lt lW)))
        have X5 := Lib.hid (X4.out.keep (keep_of_fr f5 (by simp)))
        have K5 := Lib.hid (f5.2 _ _ K4.out (by omega))
        have Y5 := Lib.hid (f5.2 _ _ Y4.out (by have := H3.out.lt; omega))
        clear h5 f5
        obtain ⟨k0, k1, k2', k3', k4', k5', k6'⟩ := cells7 K5.out
        obtain ⟨y0, y1, y2, y3, y4, y5, y6⟩ := cells7 Y5.out
        have kf := fun i => Lib.frozen_of_heap K5.out i
        obtain ⟨a5, cap5, fv5, ⟨_, _, _, _, d4⟩, _, _, hF5, _⟩ := H5.out.open
        rw [hfl] at hF5
        obtain ⟨b5, rfl, hb5⟩ := hF5
        have HB5 := Lib.hid hb5
        clear hb5
        unfold errVal at d4
        go_wp2
        go_region
        all_goals go_wp2
        all_goals
          have hh := keep_set7 (w := w5) (.int .i64 0) (.int .i64 0) (.string ⟨#[]⟩) (.int .i64 0) (.slice none 0 0) (.slice none 0 0) (.slice none 0 0) (blk_ne K5.out HB5.out (by decide)) HB5.out
          have bb := below_set7 (v0 := .int .i64 0) (v1 := .int .i64 0) (v2 := .string ⟨#[]⟩) (v3 := .int .i64 0) (v4 := .slice none 0 0) (v5 := .slice none 0 0) (v6 := .slice none 0 0) B5.out (Nat.le_refl w.heap.size)
          obtain ⟨Z, hZ⟩ : ∃ Z, (((((((World.setCell w5 ⟨w.heap.size, 0, none⟩ (.int .i64 0)).setCell ⟨w.heap.size, 1, none⟩ (.int .i64 0)).setCell ⟨w.heap.size, 2, none⟩ (.string ⟨#[]⟩)).setCell ⟨w.heap.size, 3, none⟩ (.int .i64 0)).setCell ⟨w.heap.size, 4, none⟩ (.slice none 0 0)).setCell ⟨w.heap.size, 5, none⟩ (.slice none 0 0)).setCell ⟨w.heap.size, 6, none⟩ (.slice none 0 0)) = Z := ⟨_, rfl⟩
          have hzz := block_set7 K5.out (.int .i64 0) (.int .i64 0) (.string ⟨#[]⟩) (.int .i64 0) (.slice none 0 0) (.slice none 0 0) (.slice none 0 0)
          rw [hZ] at hh bb hzz ⊢
          clear hZ k0 k1 k2' k3' k4' k5' k6' kf
          obtain ⟨k0, k1, k2', k3', k4', k5', k6'⟩ := cells7 hzz
          refine bodyPost_ret (v := .tuple #[zeroV, errVal b5]) (by simp [results, Tryz.results7, go_sem, errVal, k0, k1, k2', k3', k4', k5', k6']) rfl ?_
          exact ⟨bb.drew, .inr (.inr ⟨fp, flim, b5, rfl, rfl, rfl, hh⟩)⟩
end Go.Proofs.YtdooeghicdaakaaGreatDoor
