/- What the printer writes of a row of types, and of a type. -/
import Derived.Test.YtlfbmbbfcijedaaPut
namespace Go.Proofs.Ytlfbmbbfcijedaa
open Go.RowKit
attribute [local go_sem] Oper.semAt_some

theorem texts_take (l : List T) (i : Nat) (h : i < l.length) : T.texts (l.take (i + 1)) = T.texts (l.take i) ++ ([32] ++ T.arg l[i]) := by
  have app : ∀ (x y : List T), T.texts (x ++ y) = T.texts x ++ T.texts y := by
    intro x y
    induction x with
    | nil => rw [T.texts]; rfl
    | cons a r ih => rw [List.cons_append, T.texts_cons, T.texts_cons, ih]; simp only [List.append_assoc]
  rw [← List.take_append_getElem h, app, T.texts_cons]
  simp [T.texts]
theorem texts_len (l : List T) (i : Nat) (h : i < l.length) : (T.texts (l.take i)).length + (1 + (T.arg l[i]).length) ≤ (T.texts l).length := by
  have app : ∀ (x y : List T), T.texts (x ++ y) = T.texts x ++ T.texts y := by
    intro x y
    induction x with
    | nil => rw [T.texts]; rfl
    | cons a r ih => rw [List.cons_append, T.texts_cons, T.texts_cons, ih]; simp only [List.append_assoc]
  have e := app (l.take (i + 1)) (l.drop (i + 1))
  rw [List.take_append_drop] at e
  rw [e, texts_take l i h]
  simp; omega

set_option maxHeartbeats 2000000 in
theorem putEach_of (l : List T) (H : ∀ t ∈ l, PutOK t) (b : Nat) (s : List UInt8) (v : Value) (w : World) (hb : Bld b s w) (hv : TysAt w v l) (hl : l.length < 1152921504606846976) (hn : s.length + (T.texts l).length ≤ room) :
    Calls Try.prog 28 #[.pointer (some ⟨b, 0, none⟩), .string ⟨#[32]⟩, .string ⟨#[32]⟩, v, .func (.func 29) #[] #[]] w fun e w' => e = .returned (.tuple #[]) ∧ Bld b (s ++ T.texts l) w' ∧ PutFr b w w' := by
  obtain ⟨a, c, rfl⟩ := hv.shape
  have hbw := hb.lt
  have HB := Lib.hid hb; have HV := Lib.hid hv; have HN := Lib.hid hn; have HH := Lib.hid H
  clear H hb hv hn
  go_enter Try.func28, Try.ntmps28
  go_wp2
  go_loopw [14] (fun vi wr => ∃ i : Nat, i ≤ l.length ∧ vi = .int .i64 i ∧ Hid (Bld b (s ++ T.texts (l.take i)) wr) ∧ Hid (PutFr b w wr)) (fun vi _ => l.length - (intOf vi).toNat)
  case atStart => exact ⟨0, Nat.zero_le _, rfl, Lib.hid (by simpa [T.texts] using HB.out), Lib.hid (PutFr.refl _ _)⟩
  case round =>
    obtain ⟨i, hi, rfl, hB, hF⟩ := hrel
    by_cases hlt : i < l.length
    · have hne : l ≠ [] := by intro e; rw [e] at hlt; cases hlt
      have hvr := HV.out.keep (KeepT.of_put hF.out HB.out)
      obtain ⟨g, cap, e1, hg, hcap, hrow⟩ := hvr.row hne
      cases e1
      clear hne hvr
      obtain ⟨pa, ca, x0, x1, x2, xk⟩ := hrow i hlt
      clear hrow
      have XK := Lib.hid xk; clear xk
      have HA := Lib.hid (putArgument_of l[i] (HH.out _ (List.getElem_mem hlt)) b)
      have HT := Lib.hid (texts_take l i hlt)
      have HL := Lib.hid (texts_len l i hlt)
      obtain ⟨t, ht⟩ : ∃ t, l[i] = t := ⟨_, rfl⟩
      rw [ht] at x0 x1 x2 XK HA HT HL
      clear ht
      simp only [tyV] at HA
      have hbr := hB.out.lt
      have HNe := Lib.hid (show wr.heap.size ≠ b by omega)
      have HNL := Lib.hid (show (s ++ T.texts (List.take i l)).length + (1 + (T.arg t).length) ≤ room by have := HN.out; have := HL.out; simp; omega)
      obtain ⟨z, hz⟩ : ∃ z : Bool, ((i : Int) == 0) = z := ⟨_, rfl⟩
      cases z
      all_goals
        go_wp2_with (go_at_call 27; refine (write_lit b _ [32] _ (hB.out.alloc _) ?_).mono ?_)
        · have := HNL.out; simp at this ⊢; omega
        rintro e w2 ⟨⟨v1, rfl⟩, h1, h2⟩
        obtain ⟨d0, d1, d2⟩ := three_cells (h2.keeps (alloc_new wr _) HNe.out (by decide))
        have H1 := Lib.hid h1
        have H2 := Lib.hid ((PutFr.alloc hbr _).trans h2)
        have XK2 := Lib.hid (XK.out.keep ((keepT_alloc wr _).trans (KeepT.of_put h2 (hB.out.alloc _))))
        clear h1 h2
        go_wp2_with (go_at_call 29; refine (HA.out _ _ _ H1.out XK2.out ?_).mono ?_)
        · have := HNL.out; simp at this ⊢; omega
        rintro e w3 ⟨rfl, h1, h2⟩
        have H3 := Lib.hid h1
        have H4 := Lib.hid h2
        clear h1 h2
        go_wp2
        go_roundw
        case rel => exact ⟨i + 1, by omega, by go_num, Lib.hid (by rw [HT.out]; have := H3.out; simpa using this), Lib.hid ((hF.out.trans H2.out).trans H4.out)⟩
        case measure => simp [intOf]; omega
    · obtain rfl : i = l.length := by omega
      go_wp2
      go_end0
      exact ⟨rfl, by have := hB.out; simpa using this, hF.out⟩
end Go.Proofs.Ytlfbmbbfcijedaa
