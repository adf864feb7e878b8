/- What the printer writes of a type. -/
import Derived.Test.YtlfbmbbfcijedaaTySame
namespace Go.Proofs.Ytlfbmbbfcijedaa
open Go.RowKit
attribute [local go_sem] Oper.semAt_some

theorem PutFr.keeps {b p : Nat} {w w' : World} {cs : Array Value} {T : TypeId} {fz : Nat × Nat} (h : PutFr b w w') (hp : w.heap[p]? = some (.cells cs T fz)) (hb : p ≠ b) (hT : T ≠ 5) : w'.heap[p]? = some (.cells cs T fz) :=
  h.2 p _ hp (fun e => hb (Option.some.inj e)) (fun c f e => by cases e; exact hT rfl)
theorem Bld.alloc {b : Nat} {l : List UInt8} {w : World} (h : Bld b l w) (o : Obj) : Bld b l (w.alloc o) := h.below ((Below.refl _ w).alloc (Nat.le_refl _) o)
theorem PutFr.alloc {b : Nat} {w : World} (hb : b < w.heap.size) (o : Obj) : PutFr b w (w.alloc o) := PutFr.of_below ((Below.refl _ w).alloc (Nat.le_refl _) o) (Nat.le_of_lt hb)
theorem three_cells {w : World} {p : Nat} {x y z : Value} {T : TypeId} {fz : Nat × Nat} (h : w.heap[p]? = some (.cells #[x, y, z] T fz)) : w.cell? ⟨p, 0, none⟩ = some x ∧ w.cell? ⟨p, 1, none⟩ = some y ∧ w.cell? ⟨p, 2, none⟩ = some z := by
  refine ⟨?_, ?_, ?_⟩ <;> (rw [Lib.cell_of_heap h]; rfl)

def room : Nat := 140737488355328
def PutOK (t : T) : Prop := ∀ (b : Nat) (l : List UInt8) (v : Value) (w : World), Bld b l w → TysAt w v t.kids → l.length + (T.text t).length ≤ room →
    Calls Try.prog 18 #[.pointer (some ⟨b, 0, none⟩), tyV t v] w fun e w' => e = .returned (.tuple #[]) ∧ Bld b (l ++ T.text t) w' ∧ PutFr b w w'

set_option maxHeartbeats 1000000 in
theorem putBracketed_no (t : T) (H : PutOK t) (b : Nat) (l : List UInt8) (v : Value) (w : World) (hb : Bld b l w) (hv : TysAt w v t.kids) (hn : l.length + (T.text t).length ≤ room) :
    Calls Try.prog 31 #[.pointer (some ⟨b, 0, none⟩), tyV t v, .bool false] w fun e w' => e = .returned (.tuple #[]) ∧ Bld b (l ++ T.text t) w' ∧ PutFr b w w' := by
  obtain ⟨a, c, rfl⟩ := hv.shape
  have hbw := hb.lt
  have HC := Lib.hid (fun o => H b l _ (w.alloc o) (hb.alloc o) (hv.keep (keepT_alloc w o)) hn)
  clear H hb hv hn
  simp only [tyV] at HC ⊢
  go_enter Try.func31, Try.ntmps31
  go_wp2_with (go_at_call 18; refine (HC.out _).mono ?_; rintro e w2 ⟨rfl, h1, h2⟩; have H1 := Lib.hid h1; have H2 := Lib.hid h2; clear h1 h2)
  exact bodyPost_ret (v := .tuple #[]) (by simp [results, Try.results31, go_sem]) rfl ⟨rfl, H1.out, (PutFr.alloc hbw _).trans H2.out⟩

theorem lit_size (l : List UInt8) : (⟨l.toArray⟩ : ByteArray).size = l.length := by simp [ByteArray.size]
/-- A constant text written. -/
theorem write_lit (b : Nat) (l s : List UInt8) (w : World) (h : Bld b l w) (hlen : l.length + s.length ≤ room) :
    Calls Try.prog 27 #[.pointer (some ⟨b, 0, none⟩), .string ⟨s.toArray⟩] w fun e w' => (∃ v, e = .returned v) ∧ Bld b (l ++ s) w' ∧ PutFr b w w' := by
  refine (write_any b l ⟨s.toArray⟩ w h (by rw [lit_size]; exact hlen)).mono ?_
  rintro e w' ⟨rfl, h1, h2⟩
  exact ⟨⟨_, rfl⟩, by simpa using h1, h2⟩

set_option maxHeartbeats 1000000 in
theorem putBracketed_yes (t : T) (H : PutOK t) (b : Nat) (l : List UInt8) (v : Value) (w : World) (hb : Bld b l w) (hv : TysAt w v t.kids) (hn : l.length + ((T.text t).length + 2) ≤ room) :
    Calls Try.prog 31 #[.pointer (some ⟨b, 0, none⟩), tyV t v, .bool true] w fun e w' => e = .returned (.tuple #[]) ∧ Bld b (l ++ ([40] ++ (T.text t ++ [41]))) w' ∧ PutFr b w w' := by
  obtain ⟨a, c, rfl⟩ := hv.shape
  have hbw := hb.lt
  have HB := Lib.hid (hb.alloc); have HV := Lib.hid hv; have HN := Lib.hid hn; have HH := Lib.hid H
  clear H hb hv hn
  simp only [tyV]
  go_enter Try.func31, Try.ntmps31
  have hne : w.heap.size ≠ b := by omega
  have HNe := Lib.hid hne; clear hne
  go_wp2_with (go_at_call 27; refine (write_lit b l [40] _ (HB.out _) ?_).mono ?_)
  · simp; have := HN.out; omega
  rintro e w2 ⟨⟨v1, rfl⟩, h1, h2⟩
  obtain ⟨d0, d1, d2⟩ := three_cells (h2.keeps (alloc_new w _) HNe.out (by decide))
  have H1 := Lib.hid h1
  have H2 := Lib.hid ((PutFr.alloc hbw _).trans h2)
  have HV2 := Lib.hid (HV.out.keep ((keepT_alloc w _).trans (KeepT.of_put h2 (HB.out _))))
  clear h1 h2
  go_wp2_with (go_at_call 18; refine (HH.out b (l ++ [40]) _ _ H1.out HV2.out ?_).mono ?_)
  · simp; have := HN.out; omega
  rintro e w3 ⟨rfl, h1, h2⟩
  have H3 := Lib.hid h1
  have H4 := Lib.hid h2
  clear h1 h2
  go_wp2_with (go_at_call 27; refine (write_lit b _ [41] _ H3.out ?_).mono ?_)
  · simp; have := HN.out; omega
  rintro e w4 ⟨⟨v2, rfl⟩, h1, h2⟩
  have H5 := Lib.hid h1
  have H6 := Lib.hid h2
  clear h1 h2
  go_wp2
  go_end0
  refine ⟨rfl, ?_, (H2.out.trans H4.out).trans H6.out⟩
  have := H5.out
  simpa using this

theorem putBracketed_any (t : T) (H : PutOK t) (x : Bool) (b : Nat) (l : List UInt8) (v : Value) (w : World) (hb : Bld b l w) (hv : TysAt w v t.kids) (hn : l.length + (T.br x (T.text t)).length ≤ room) :
    Calls Try.prog 31 #[.pointer (some ⟨b, 0, none⟩), tyV t v, .bool x] w fun e w' => e = .returned (.tuple #[]) ∧ Bld b (l ++ T.br x (T.text t)) w' ∧ PutFr b w w' := by
  cases x
  · exact putBracketed_no t H b l v w hb hv (by simpa [T.br] using hn)
  · exact putBracketed_yes t H b l v w hb hv (by simpa [T.br] using hn)

theorem wide_cases (t : T) : ((t.kind == 2) = false ∧ (t.kind == 3) = false ∧ (t.kind == 4) = false ∧ t.wide = false) ∨ ((t.kind == 2) = true ∧ t.kids.length = 0 ∧ (t.kind == 3) = false ∧ (t.kind == 4) = false ∧ t.wide = false) ∨
    ((t.kind == 2) = true ∧ 0 < t.kids.length ∧ t.wide = true) ∨ ((t.kind == 2) = false ∧ (t.kind == 3) = true ∧ t.wide = true) ∨ ((t.kind == 2) = false ∧ (t.kind == 3) = false ∧ (t.kind == 4) = true ∧ t.wide = true) := by
  cases t with
  | var n => exact .inl ⟨rfl, rfl, rfl, rfl⟩
  | con n l =>
    cases l with
    | nil => exact .inr (.inl ⟨rfl, rfl, rfl, rfl, rfl⟩)
    | cons a r => exact .inr (.inr (.inl ⟨rfl, by simp [T.kids], rfl⟩))
  | fn a b => exact .inr (.inr (.inr (.inl ⟨rfl, rfl, rfl⟩)))
  | all n a => exact .inr (.inr (.inr (.inr ⟨rfl, rfl, rfl, rfl⟩)))

set_option maxHeartbeats 1000000 in
theorem putArgument_of (t : T) (H : PutOK t) (b : Nat) (l : List UInt8) (v : Value) (w : World) (hb : Bld b l w) (hv : TysAt w v t.kids) (hn : l.length + (T.arg t).length ≤ room) :
    Calls Try.prog 29 #[.pointer (some ⟨b, 0, none⟩), tyV t v] w fun e w' => e = .returned (.tuple #[]) ∧ Bld b (l ++ T.arg t) w' ∧ PutFr b w w' := by
  obtain ⟨a, c, rfl⟩ := hv.shape
  have hbw := hb.lt
  have HC := Lib.hid (fun o => putBracketed_any t H t.wide b l _ (w.alloc o) (hb.alloc o) (hv.keep (keepT_alloc w o)) hn)
  have HW := Lib.hid (wide_cases t)
  clear H hb hv hn
  obtain ⟨out, hout⟩ : ∃ o, T.arg t = o := ⟨_, rfl⟩
  rw [show T.br t.wide t.text = T.arg t from rfl, hout] at HC
  rw [hout]; clear hout
  simp only [tyV] at HC ⊢
  rcases HW.out with ⟨e2, e3, e4, e⟩ | ⟨e2, el, e3, e4, e⟩ | ⟨e2, el, e⟩ | ⟨e2, e3, e⟩ | ⟨e2, e3, e4, e⟩
  all_goals rw [e] at HC
  all_goals clear e HW
  · go_enter Try.func29, Try.ntmps29
    go_wp2_with (go_at_call 31; refine (HC.out _).mono ?_; rintro e w2 ⟨rfl, h1, h2⟩; have H1 := Lib.hid h1; have H2 := Lib.hid h2; clear h1 h2)
    go_end0
    exact ⟨rfl, H1.out, (PutFr.alloc hbw _).trans H2.out⟩
  · rw [el] at HC ⊢
    clear el
    go_enter Try.func29, Try.ntmps29
    go_wp2_with (go_at_call 31; refine (HC.out _).mono ?_; rintro e w2 ⟨rfl, h1, h2⟩; have H1 := Lib.hid h1; have H2 := Lib.hid h2; clear h1 h2)
    all_goals go_end0
    all_goals exact ⟨rfl, H1.out, (PutFr.alloc hbw _).trans H2.out⟩
  · have hl : ((0 : Int) < (t.kids.length : Int)) := by omega
    go_enter Try.func29, Try.ntmps29
    go_wp2_with (go_at_call 31; refine (HC.out _).mono ?_; rintro e w2 ⟨rfl, h1, h2⟩; have H1 := Lib.hid h1; have H2 := Lib.hid h2; clear h1 h2)
    all_goals go_end0
    all_goals exact ⟨rfl, H1.out, (PutFr.alloc hbw _).trans H2.out⟩
  · go_enter Try.func29, Try.ntmps29
    go_wp2_with (go_at_call 31; refine (HC.out _).mono ?_; rintro e w2 ⟨rfl, h1, h2⟩; have H1 := Lib.hid h1; have H2 := Lib.hid h2; clear h1 h2)
    all_goals go_end0
    all_goals exact ⟨rfl, H1.out, (PutFr.alloc hbw _).trans H2.out⟩
  · go_enter Try.func29, Try.ntmps29
    go_wp2_with (go_at_call 31; refine (HC.out _).mono ?_; rintro e w2 ⟨rfl, h1, h2⟩; have H1 := Lib.hid h1; have H2 := Lib.hid h2; clear h1 h2)
    all_goals go_end0
    all_goals exact ⟨rfl, H1.out, (PutFr.alloc hbw _).trans H2.out⟩
end Go.Proofs.Ytlfbmbbfcijedaa
