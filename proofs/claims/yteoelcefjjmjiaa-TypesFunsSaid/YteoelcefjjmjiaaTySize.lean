/- types.Size, types.Has; the document's Size. -/
import Derived.Test.YteoelcefjjmjiaaTyVars
namespace Go.Proofs.Yteoelcefjjmjiaa
open Go.RowKit
attribute [local go_sem] Oper.semAt_some

theorem T.by_kids {P : T → Prop} (H : ∀ t : T, (∀ k ∈ t.kids, P k) → P t) (t : T) : P t := H t fun k _ => T.by_kids H k
termination_by SizeOf.sizeOf t
decreasing_by exact T.kid_size ‹_›
theorem kind_var {t : T} (h : t.kind = 1) : t.kids = [] := by cases t <;> simp_all [T.kind, T.kids]
theorem take_sizes (l : List T) (i : Nat) (h : i < l.length) : tsizes (l.take (i + 1)) = tsizes (l.take i) + tsize l[i] := (tsizes_take l i h).1
def SizeOK (f : Nat) (t : T) : Prop := ∀ (a : Option Addr) (c : Nat) (w : World), TysAt w (.slice a t.kids.length c) t.kids → tsize t ≤ 1000000000 →
    Calls Try.prog f #[tyV t (.slice a t.kids.length c)] w fun e w' => e = .returned (.int .i64 (tsize t : Nat)) ∧ Below w.heap.size w w'

set_option maxHeartbeats 2000000 in
theorem size_step (t : T) (H : ∀ k ∈ t.kids, SizeOK 15 k) : SizeOK 15 t := by
  intro a c w ht hs
  have hz := tsize_eq t
  have hlen := len_sizes' t.kids
  by_cases hk : t.kind = 1
  · have h0 := kind_var hk
    have e : tsize t = 1 := by rw [hz, h0]; rfl
    have hl : t.kids.length = 0 := by rw [h0]; rfl
    rw [e, hl]
    simp only [tyV, hk]
    have HB := Lib.hid (fun o => (Below.refl _ w).alloc (Nat.le_refl _) o)
    clear ht H hs hz hlen h0 e hk hl
    go_enter Try.func15, Try.ntmps15
    go_wp2
    go_ret
    exact ⟨rfl, HB.out _⟩
  · have q1 : (t.kind == 1) = false := by simpa using hk
    have HR := Lib.hid ht.part
    have HS := Lib.hid H
    have HB := Lib.hid (fun o => (Below.refl _ w).alloc (Nat.le_refl _) o)
    clear H ht hk
    simp only [tyV]
    go_enter Try.func15, Try.ntmps15
    go_wp2
    go_loopw [3, 13] (fun vn vi wr => ∃ i : Nat, i ≤ t.kids.length ∧ vi = .int .i64 i ∧ vn = .int .i64 ((1 + tsizes (t.kids.take i) : Nat) : Int) ∧ Hid (Below w.heap.size w wr)) (fun _ vi _ => t.kids.length - (intOf vi).toNat)
    case atStart => exact ⟨0, Nat.zero_le _, rfl, by simp [tsizes], Lib.hid (HB.out _)⟩
    case round =>
      obtain ⟨i, hi, rfl, rfl, hB⟩ := hrel
      by_cases hlt : i < t.kids.length
      · obtain ⟨g, pa, ca, rfl, hcap, hr⟩ := HR.out i hlt
        obtain ⟨⟨hg, x0, x1, x2⟩, xk⟩ := hr wr (KeepT.of_below hB.out)
        have hsz := tsizes_take t.kids i hlt
        have hkk := size_mem' (List.getElem_mem hlt)
        have HC := Lib.hid (fun o => HS.out t.kids[i] (List.getElem_mem hlt) pa ca (wr.alloc o) (xk.keep (keepT_alloc wr o)) (by omega))
        have HX := Lib.hid (fun (o : Obj) => hB.out.alloc hB.out.size o)
        have hn1 : (1 + tsizes (t.kids.take i) : Nat) + tsize t.kids[i] = (1 + tsizes (t.kids.take (i + 1)) : Nat) := by omega
        have hn2 : (1 + tsizes (t.kids.take (i + 1)) : Nat) ≤ 1000000000 := by omega
        clear hr xk hsz hkk HS HR HB hB
        generalize t.kids[i] = u at x0 x1 x2 HC hn1
        simp only [tyV] at HC
        have hlt1 : ((i : Int) < (t.kids.length : Int)) := by omega
        generalize (1 + tsizes (t.kids.take i) : Nat) = n at hn1 ⊢
        generalize hm : (1 + tsizes (t.kids.take (i + 1)) : Nat) = m at hn1 hn2
        have HM := Lib.hid hm
        have HN := Lib.hid hn1
        have hn3 : n + tsize u ≤ 1000000000 := by omega
        clear hm hn1 hn2
        go_wp2_with (go_at_call 15; refine (HC.out _).mono ?_; rintro e w2 ⟨rfl, r1⟩; have HW2 := Lib.hid ((HX.out _).trans (r1.mono (by simp; have := (HX.out (.cells #[] 0)).size; simp at this; omega))); clear r1)
        refine ⟨⟨i + 1, by omega, by go_num, ?_, HW2⟩, ?_⟩
        · rw [HM.out, ← HN.out]; go_num
        · simp [intOf]; omega
      · obtain rfl : i = t.kids.length := by omega
        rw [List.take_length, ← hz]
        clear HR HS HB
        go_wp2
        go_ret
        exact ⟨rfl, hB.out⟩
theorem size_any {t : T} {v : Value} {w : World} (hs : tsize t ≤ 1000000000) (h : TysAt w v t.kids) :
    Calls Try.prog 15 #[tyV t v] w fun e w' => e = .returned (.int .i64 (tsize t : Nat)) ∧ Below w.heap.size w w' := by
  obtain ⟨a, c, rfl⟩ := h.shape
  exact T.by_kids (P := SizeOK 15) size_step t a c w h hs
end Go.Proofs.Yteoelcefjjmjiaa
