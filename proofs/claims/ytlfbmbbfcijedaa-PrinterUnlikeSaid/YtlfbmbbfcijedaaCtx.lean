/- What the printer writes of a context, and of a scheme. -/
import Derived.Test.YtlfbmbbfcijedaaPred
namespace Go.Proofs.Ytlfbmbbfcijedaa
open Go.RowKit
attribute [local go_sem] Oper.semAt_some

def joins : List Pr → List UInt8
  | [] => []
  | p :: r => ([44, 32] ++ prText p) ++ joins r
def eachP : List Pr → List UInt8
  | [] => []
  | p :: r => ([40] ++ prText p) ++ joins r
theorem joins_app (x y : List Pr) : joins (x ++ y) = joins x ++ joins y := by
  induction x with
  | nil => rfl
  | cons a r ih => rw [List.cons_append, joins, joins, ih]; simp only [List.append_assoc]
theorem eachP_take (l : List Pr) (i : Nat) (h : i < l.length) : eachP (l.take (i + 1)) = eachP (l.take i) ++ ((if i = 0 then [40] else [44, 32]) ++ prText l[i]) := by
  cases l with
  | nil => cases h
  | cons a r =>
    cases i with
    | zero => simp [eachP, joins]
    | succ i =>
      have h' : i < r.length := by simpa using h
      rw [List.take_succ_cons, List.take_succ_cons, eachP, eachP, ← List.take_append_getElem h', joins_app]
      simp [joins]
theorem eachP_len (l : List Pr) (i : Nat) (h : i < l.length) : (eachP (l.take i)).length + ((if i = 0 then 1 else 2) + (prText l[i]).length) ≤ (eachP l).length := by
  have e : eachP l = eachP (l.take (i + 1)) ++ joins (l.drop (i + 1)) := by
    cases l with
    | nil => cases h
    | cons a r => rw [List.take_succ_cons, List.drop_succ_cons, eachP, eachP, List.append_assoc ([40] ++ prText a), ← joins_app, List.take_append_drop]
  rw [e, eachP_take l i h]
  split <;> simp <;> omega

set_option maxHeartbeats 2000000 in
theorem eachPred_any (l : List Pr) (hf : ∀ p ∈ l, Fits p.2) (b : Nat) (s : List UInt8) (v : Value) (w : World) (hb : Bld b s w) (hv : PrsAt w v l) (hl : l.length < 1152921504606846976) (hn : s.length + (eachP l).length ≤ room) :
    Calls Try.prog 36 #[.pointer (some ⟨b, 0, none⟩), .string ⟨#[40]⟩, .string ⟨#[44, 32]⟩, v, .func (.func 35) #[] #[]] w fun e w' => e = .returned (.tuple #[]) ∧ Bld b (s ++ eachP l) w' ∧ PutFr b w w' := by
  obtain ⟨a, c, rfl⟩ := hv.shape
  have hbw := hb.lt
  have HB := Lib.hid hb; have HV := Lib.hid hv; have HN := Lib.hid hn; have HH := Lib.hid hf
  clear hf hb hv hn
  go_enter Try.func36, Try.ntmps36
  go_wp2
  go_loopw [14] (fun vi wr => ∃ i : Nat, i ≤ l.length ∧ vi = .int .i64 i ∧ Hid (Bld b (s ++ eachP (l.take i)) wr) ∧ Hid (PutFr b w wr)) (fun vi _ => l.length - (intOf vi).toNat)
  case atStart => exact ⟨0, Nat.zero_le _, rfl, Lib.hid (by simpa [eachP] using HB.out), Lib.hid (PutFr.refl _ _)⟩
  case round =>
    obtain ⟨i, hi, rfl, hB, hF⟩ := hrel
    by_cases hlt : i < l.length
    · have hne : l ≠ [] := by intro e; rw [e] at hlt; cases hlt
      have hvr := HV.out.keep (KeepT.of_put hF.out HB.out) (KeepP.of_put hF.out HB.out)
      obtain ⟨g, cap, e1, hg, hcap, hrow⟩ := hvr.row hne
      cases e1
      clear hne hvr
      obtain ⟨pa, ca, x0, x1, x2, x3, xk⟩ := hrow i hlt
      clear hrow
      have XK := Lib.hid xk; clear xk
      have HA := Lib.hid (putPred_any l[i] (HH.out _ (List.getElem_mem hlt)) b)
      have HT := Lib.hid (eachP_take l i hlt)
      have HL := Lib.hid (eachP_len l i hlt)
      obtain ⟨t, ht⟩ : ∃ t, l[i] = t := ⟨_, rfl⟩
      rw [ht] at x0 x1 x2 x3 XK HA HT HL
      clear ht
      simp only [prV] at HA
      have hbr := hB.out.lt
      have HNe := Lib.hid (show wr.heap.size ≠ b by omega)
      have HNL := Lib.hid (show (s ++ eachP (List.take i l)).length + ((if i = 0 then 1 else 2) + (prText t).length) ≤ room by have := HN.out; have := HL.out; simp; omega)
      by_cases h0 : i = 0
      · have e0 : ((i : Int) == 0) = true := by simp; omega
        have HT' := Lib.hid (show eachP (List.take (i + 1) l) = _ from HT.out.trans (by rw [if_pos h0]))
        have HNL' := Lib.hid (show _ ≤ room by have := HNL.out; rw [if_pos h0] at this; exact this)
        clear HT HNL h0
        go_wp2_with (go_at_call 27; refine (write_lit b _ [40] _ (hB.out.alloc _) ?_).mono ?_)
        · have := HNL'.out; simp at this ⊢; omega
        rintro e w2 ⟨⟨v1, rfl⟩, h1, h2⟩
        obtain ⟨d0, d1, d2, d3⟩ := four_cells (h2.keeps (alloc_new wr _) HNe.out (by decide))
        have H1 := Lib.hid h1
        have H2 := Lib.hid ((PutFr.alloc hbr _).trans h2)
        have XK2 := Lib.hid (XK.out.keep ((keepT_alloc wr _).trans (KeepT.of_put h2 (hB.out.alloc _))))
        clear h1 h2
        go_wp2_with (go_at_call 35; refine (HA.out _ _ _ H1.out XK2.out ?_).mono ?_)
        · have := HNL'.out; simp at this ⊢; omega
        rintro e w3 ⟨rfl, h1, h2⟩
        have H3 := Lib.hid h1
        have H4 := Lib.hid h2
        clear h1 h2
        go_wp2
        go_roundw
        case rel => exact ⟨i + 1, by omega, by go_num, Lib.hid (by rw [HT'.out]; have := H3.out; simpa using this), Lib.hid ((hF.out.trans H2.out).trans H4.out)⟩
        case measure => simp [intOf]; omega
      · have e0 : ((i : Int) == 0) = false := by simp; omega
        have HT' := Lib.hid (show eachP (List.take (i + 1) l) = _ from HT.out.trans (by rw [if_neg h0]))
        have HNL' := Lib.hid (show _ ≤ room by have := HNL.out; rw [if_neg h0] at this; exact this)
        clear HT HNL h0
        go_wp2_with (go_at_call 27; refine (write_lit b _ [44, 32] _ (hB.out.alloc _) ?_).mono ?_)
        · have := HNL'.out; simp at this ⊢; omega
        rintro e w2 ⟨⟨v1, rfl⟩, h1, h2⟩
        obtain ⟨d0, d1, d2, d3⟩ := four_cells (h2.keeps (alloc_new wr _) HNe.out (by decide))
        have H1 := Lib.hid h1
        have H2 := Lib.hid ((PutFr.alloc hbr _).trans h2)
        have XK2 := Lib.hid (XK.out.keep ((keepT_alloc wr _).trans (KeepT.of_put h2 (hB.out.alloc _))))
        clear h1 h2
        go_wp2_with (go_at_call 35; refine (HA.out _ _ _ H1.out XK2.out ?_).mono ?_)
        · have := HNL'.out; simp at this ⊢; omega
        rintro e w3 ⟨rfl, h1, h2⟩
        have H3 := Lib.hid h1
        have H4 := Lib.hid h2
        clear h1 h2
        go_wp2
        go_roundw
        case rel => exact ⟨i + 1, by omega, by go_num, Lib.hid (by rw [HT'.out]; have := H3.out; simpa using this), Lib.hid ((hF.out.trans H2.out).trans H4.out)⟩
        case measure => simp [intOf]; omega
    · obtain rfl : i = l.length := by omega
      go_wp2
      go_end0
      exact ⟨rfl, by have := hB.out; simpa using this, hF.out⟩

/-- A context's text. -/
def ctxText : List Pr → List UInt8
  | [] => []
  | [p] => prText p ++ [32, 61, 62, 32]
  | p :: q :: r => eachP (p :: q :: r) ++ ([41] ++ [32, 61, 62, 32])

set_option maxHeartbeats 2000000 in
theorem putContext_any (l : List Pr) (hf : ∀ p ∈ l, Fits p.2) (b : Nat) (s : List UInt8) (v : Value) (w : World) (hb : Bld b s w) (hv : PrsAt w v l) (hl : l.length < 1152921504606846976) (hn : s.length + (ctxText l).length ≤ room) :
    Calls Try.prog 32 #[.pointer (some ⟨b, 0, none⟩), v] w fun e w' => e = .returned (.tuple #[]) ∧ Bld b (s ++ ctxText l) w' ∧ PutFr b w w' := by
  match l, hv, hl, hn, hf with
  | [], hv, _, _, _ =>
    obtain ⟨a, c, rfl⟩ := hv.shape
    have HB := Lib.hid hb; clear hb hv
    simp only [List.length_nil]
    go_enter Try.func32, Try.ntmps32
    go_wp2
    exact bodyPost_ret (v := .tuple #[]) (by simp [results, Try.results32, go_sem]) rfl ⟨rfl, by simpa [ctxText] using HB.out, PutFr.refl _ _⟩
  | [p], hv, _, hn, hf =>
    obtain ⟨g, cap, rfl, hg, hcap, hrow⟩ := hv.row (by simp)
    obtain ⟨pa, ca, x0, x1, x2, x3, xk⟩ := hrow 0 (by simp)
    have XK := Lib.hid xk
    have HA := Lib.hid (putPred_any p (hf p (by simp)) b)
    have HB := Lib.hid hb; have HN := Lib.hid hn
    clear hb hv hn hf hrow xk
    simp only [List.length_cons, List.length_nil, Nat.zero_add, List.getElem_cons_zero, Nat.zero_mul, prV] at *
    go_enter Try.func32, Try.ntmps32
    go_wp2_with (go_at_call 35; refine (HA.out _ _ _ HB.out XK.out ?_).mono ?_)
    · have := HN.out; simp [ctxText] at this; omega
    rintro e w2 ⟨rfl, h1, h2⟩
    have H1 := Lib.hid h1
    have H2 := Lib.hid h2
    clear h1 h2
    go_wp2_with (go_at_call 27; refine (write_lit b _ [32, 61, 62, 32] _ H1.out ?_).mono ?_)
    · have := HN.out; simp [ctxText] at this ⊢; omega
    rintro e w3 ⟨⟨v1, rfl⟩, h1, h2⟩
    have H3 := Lib.hid h1
    have H4 := Lib.hid h2
    clear h1 h2
    go_wp2
    go_end0
    exact ⟨rfl, by have := H3.out; simpa [ctxText] using this, H2.out.trans H4.out⟩
  | p :: q :: r, hv, hl, hn, hf =>
    obtain ⟨a, c, rfl⟩ := hv.shape
    have HE := Lib.hid (eachPred_any (p :: q :: r) hf b s _ w hb hv hl (by simp only [ctxText, List.length_append] at hn; omega))
    have hn' : s.length + ((eachP (p :: q :: r)).length + 5) ≤ room := by simpa [ctxText] using hn
    have HN := Lib.hid hn'
    have HT := Lib.hid (show ctxText (p :: q :: r) = eachP (p :: q :: r) ++ ([41] ++ [32, 61, 62, 32]) from rfl)
    have e0 : (((p :: q :: r).length : Int) == 0) = false := by simp; omega
    have e1 : (((p :: q :: r).length : Int) == 1) = false := by simp; omega
    clear hf hb hv hn hn'
    generalize p :: q :: r = l at *
    go_enter Try.func32, Try.ntmps32
    go_wp2_with (go_at_call 36; refine HE.out.mono ?_)
    rintro e w2 ⟨rfl, h1, h2⟩
    have H1 := Lib.hid h1
    have H2 := Lib.hid h2
    clear h1 h2
    go_wp2_with (go_at_call 27; refine (write_lit b _ [41] _ H1.out ?_).mono ?_)
    · have := HN.out; simp; omega
    rintro e w3 ⟨⟨v1, rfl⟩, h1, h2⟩
    have H3 := Lib.hid h1
    have H4 := Lib.hid h2
    clear h1 h2
    go_wp2_with (go_at_call 27; refine (write_lit b _ [32, 61, 62, 32] _ H3.out ?_).mono ?_)
    · have := HN.out; simp; omega
    rintro e w4 ⟨⟨v2, rfl⟩, h1, h2⟩
    have H5 := Lib.hid h1
    have H6 := Lib.hid h2
    clear h1 h2
    go_wp2
    go_end0
    exact ⟨rfl, by rw [HT.out]; have := H5.out; simpa using this, (H2.out.trans H4.out).trans H6.out⟩
end Go.Proofs.Ytlfbmbbfcijedaa
