/- The document's Size; how long a type's text is. -/
import Derived.Test.YtmbaolcdjgilpaaSbRen
import Derived.Test.YtmbaolcdjgilpaaMakeAll
namespace Go.Proofs.Ytmbaolcdjgilpaa
open Go.RowKit
attribute [local go_sem] Oper.semAt_some

theorem TysAt.part {w : World} {l : List T} {a : Option Addr} {c : Nat} (h : TysAt w (.slice a l.length c) l) (i : Nat) (hi : i < l.length) : ∃ g pa ca, a = some ⟨g, 0, none⟩ ∧ l.length ≤ c ∧ ∀ W, KeepT w W → (g < W.heap.size ∧ W.cell? ⟨g, i * 3, none⟩ = some (.int .i64 l[i].kind) ∧ W.cell? ⟨g, i * 3 + 1, none⟩ = some (.string l[i].name) ∧ W.cell? ⟨g, i * 3 + 2, none⟩ = some (.slice pa l[i].kids.length ca)) ∧ TysAt W (.slice pa l[i].kids.length ca) l[i].kids := by
  rcases h with ⟨h, _⟩ | ⟨g, cap, cs, fz, x, y, z, e, h1, h2, h3, h4⟩
  · rw [h] at hi; cases hi
  · cases e
    obtain ⟨c1, c2, c3⟩ := h3 i hi
    obtain ⟨e1, e2, ⟨pa, ca, e3⟩, e4⟩ := (h4 i hi).shape
    rw [e1] at c1; rw [e2] at c2; rw [e3] at c3 e4
    refine ⟨g, pa, ca, rfl, h2, fun W hk => ?_⟩
    have hW := hk _ _ _ h1
    refine ⟨⟨(Array.getElem?_eq_some_iff.1 hW).1, ?_, ?_, ?_⟩, e4.keep hk⟩
    · simp only [World.cell?, hW]; simpa using c1
    · simp only [World.cell?, hW]; simpa using c2
    · simp only [World.cell?, hW]; simpa using c3
theorem len_sizes' : ∀ l : List T, l.length ≤ tsizes l
  | [] => Nat.le_refl _
  | a :: l => by have := len_sizes' l; have := tsize_eq a; simp [tsizes]; omega
theorem size_mem' {k : T} : ∀ {l : List T}, k ∈ l → tsize k ≤ tsizes l
  | a :: l, h => by
    rw [tsizes]
    rcases List.mem_cons.1 h with rfl | h
    · omega
    · have := size_mem' h; omega
theorem tsizes_take (l : List T) (i : Nat) (h : i < l.length) : tsizes (l.take (i + 1)) = tsizes (l.take i) + tsize l[i] ∧ tsizes (l.take (i + 1)) ≤ tsizes l := by
  induction l generalizing i with
  | nil => simp at h
  | cons a l ih =>
    cases i with
    | zero => simp [tsizes]
    | succ i =>
      obtain ⟨h1, h2⟩ := ih i (by simpa using h)
      simp only [List.take_succ_cons, tsizes, List.getElem_cons_succ, h1]
      omega
theorem T.by_kids {P : T → Prop} (H : ∀ t : T, (∀ k ∈ t.kids, P k) → P t) (t : T) : P t := H t fun k _ => T.by_kids H k
termination_by SizeOf.sizeOf t
decreasing_by exact T.kid_size ‹_›
theorem kind_var {t : T} (h : t.kind = 1) : t.kids = [] := by cases t <;> simp_all [T.kind, T.kids]
theorem take_sizes (l : List T) (i : Nat) (h : i < l.length) : tsizes (l.take (i + 1)) = tsizes (l.take i) + tsize l[i] := (tsizes_take l i h).1
def SizeOK (f : Nat) (t : T) : Prop := ∀ (a : Option Addr) (c : Nat) (w : World), TysAt w (.slice a t.kids.length c) t.kids → tsize t ≤ 1000000000 →
    Calls Try.prog f #[tyV t (.slice a t.kids.length c)] w fun e w' => e = .returned (.int .i64 (tsize t : Nat)) ∧ Below w.heap.size w w'

set_option maxHeartbeats 2000000 in
theorem rsize_step (t : T) (H : ∀ k ∈ t.kids, SizeOK 24 k) : SizeOK 24 t := by
  intro a c w ht hs
  have hz := tsize_eq t
  have hlen := len_sizes' t.kids
  have HR := Lib.hid ht.part
  have HS := Lib.hid H
  have HB := Lib.hid (fun o => (Below.refl _ w).alloc (Nat.le_refl _) o)
  clear H ht
  simp only [tyV]
  go_enter Try.func24, Try.ntmps24
  go_wp2
  go_loopw [3, 4] (fun vn vi wr => ∃ i : Nat, i ≤ t.kids.length ∧ vi = .int .i64 i ∧ vn = .int .i64 ((1 + tsizes (t.kids.take i) : Nat) : Int) ∧ Hid (Below w.heap.size w wr) ∧ Hid (wr.heap[w.heap.size]? = some (.cells #[.int .i64 t.kind, .string t.name, .slice a t.kids.length c] 34 (0, 0)))) (fun _ vi _ => t.kids.length - (intOf vi).toNat)
  case atStart => exact ⟨0, Nat.zero_le _, rfl, by simp [tsizes], Lib.hid (HB.out _), Lib.hid (alloc_new w _)⟩
  case round =>
    obtain ⟨i, hi, rfl, rfl, hB, hBox⟩ := hrel
    obtain ⟨y0, y1, y2⟩ := three_cells hBox.out
    by_cases hlt : i < t.kids.length
    · obtain ⟨g, pa, ca, rfl, hcap, hr⟩ := HR.out i hlt
      obtain ⟨⟨hg, x0, x1, x2⟩, xk⟩ := hr wr (KeepT.of_below hB.out)
      have hsz := tsizes_take t.kids i hlt
      have hkk := size_mem' (List.getElem_mem hlt)
      have HC := Lib.hid (HS.out t.kids[i] (List.getElem_mem hlt) pa ca wr xk (by omega))
      have hn1 : (1 + tsizes (t.kids.take i) : Nat) + tsize t.kids[i] = (1 + tsizes (t.kids.take (i + 1)) : Nat) := by omega
      have hn2 : (1 + tsizes (t.kids.take (i + 1)) : Nat) ≤ 1000000000 := by omega
      clear hr xk hsz hkk HS HR HB
      generalize t.kids[i] = u at x0 x1 x2 HC hn1
      simp only [tyV] at HC
      have hlt1 : ((i : Int) < (t.kids.length : Int)) := by omega
      generalize (1 + tsizes (t.kids.take i) : Nat) = n at hn1 ⊢
      generalize hm : (1 + tsizes (t.kids.take (i + 1)) : Nat) = m at hn1 hn2
      have HM := Lib.hid hm
      have HN := Lib.hid hn1
      have hn3 : n + tsize u ≤ 1000000000 := by omega
      clear hm hn1 hn2
      go_wp2_with (go_at_call 24; refine HC.out.mono ?_; rintro e w2 ⟨rfl, r1⟩; have HW2 := Lib.hid (hB.out.trans (r1.mono hB.out.size)); have HB2 := Lib.hid ((r1.block _ (Array.getElem?_eq_some_iff.1 hBox.out).1).trans hBox.out); clear r1)
      refine ⟨⟨i + 1, by omega, by go_num, ?_, HW2, HB2⟩, ?_⟩
      · rw [HM.out, ← HN.out]; go_num
      · simp [intOf]; omega
    · obtain rfl : i = t.kids.length := by omega
      rw [List.take_length, ← hz]
      clear HR HS HB
      go_wp2
      go_ret
      exact ⟨rfl, hB.out⟩
theorem rsize_any {t : T} {v : Value} {w : World} (hs : tsize t ≤ 1000000000) (h : TysAt w v t.kids) :
    Calls Try.prog 24 #[tyV t v] w fun e w' => e = .returned (.int .i64 (tsize t : Nat)) ∧ Below w.heap.size w w' := by
  obtain ⟨a, c, rfl⟩ := h.shape
  exact T.by_kids (P := SizeOK 24) rsize_step t a c w h hs

theorem vname_pos {n : ByteArray} (h : n.data.toList ∈ T.vnames) : 1 ≤ n.data.toList.length ∧ n.size ≤ 4 := by
  rw [Lib.size_eq]
  simp [T.vnames] at h
  rcases h with h | h | h <;> rw [h] <;> decide
theorem cname_pos {n : ByteArray} (h : n.data.toList ∈ T.cnames) : 1 ≤ n.data.toList.length ∧ n.size ≤ 4 := by
  rw [Lib.size_eq]
  simp [T.cnames] at h
  rcases h with h | h | h | h <;> rw [h] <;> decide
theorem br_ge (b : Bool) (s : List UInt8) : s.length ≤ (T.br b s).length := by
  unfold T.br; split <;> simp <;> omega
mutual
theorem size_text (t : T) (h : T.Good t) : tsize t ≤ (T.text t).length := by
  cases t with
  | var n => rw [T.Good] at h; rw [tsize, T.text]; exact (vname_pos h).1
  | con n l =>
    rw [T.Good] at h
    rw [tsize, T.text, List.length_append]
    have := (cname_pos h.1).1
    have := sizes_text l h.2
    omega
  | fn a b =>
    rw [T.Good] at h
    rw [tsize, T.text]
    have := size_text a h.1; have := size_text b h.2; have := br_ge a.arrow a.text
    simp only [List.length_append, List.length_cons, List.length_nil]
    omega
  | all n a => rw [T.Good] at h; exact h.elim
theorem sizes_text (l : List T) (h : T.Goods l) : tsizes l ≤ (T.texts l).length := by
  cases l with
  | nil => simp [tsizes]
  | cons a l =>
    rw [T.Goods] at h
    rw [tsizes, T.texts_cons]
    have := size_text a h.1; have := sizes_text l h.2; have := br_ge a.wide a.text
    simp only [List.length_append, List.length_cons, List.length_nil, T.arg]
    omega
end
end Go.Proofs.Ytmbaolcdjgilpaa
