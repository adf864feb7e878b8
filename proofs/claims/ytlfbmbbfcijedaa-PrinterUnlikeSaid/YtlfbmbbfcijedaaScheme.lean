/- The text of a scheme. -/
import Derived.Test.YtlfbmbbfcijedaaCtx
namespace Go.Proofs.Ytlfbmbbfcijedaa
open Go.RowKit
attribute [local go_sem] Oper.semAt_some

def schV (vs cv : Value) (t : T) (v : Value) : Value := .agg #[vs, cv, .int .i64 t.kind, .string t.name, v]
theorem five_cells {w : World} {p : Nat} {x y z u v : Value} {T : TypeId} {fz : Nat × Nat} (h : w.heap[p]? = some (.cells #[x, y, z, u, v] T fz)) : w.cell? ⟨p, 0, none⟩ = some x ∧ w.cell? ⟨p, 1, none⟩ = some y ∧ w.cell? ⟨p, 2, none⟩ = some z ∧ w.cell? ⟨p, 3, none⟩ = some u ∧ w.cell? ⟨p, 4, none⟩ = some v := by
  refine ⟨?_, ?_, ?_, ?_, ?_⟩ <;> (rw [Lib.cell_of_heap h]; rfl)
def schText (l : List Pr) (t : T) : List UInt8 := ctxText l ++ T.text t

set_option maxHeartbeats 1000000 in
theorem putScheme_any (l : List Pr) (t : T) (hf : ∀ p ∈ l, Fits p.2) (ht : Fits t) (b : Nat) (s : List UInt8) (a : Option Addr) (n c : Nat) (cv v : Value) (w : World) (hb : Bld b s w) (hv : PrsAt w cv l) (hw : TysAt w v t.kids) (hl : l.length < 1152921504606846976) (hn : s.length + (schText l t).length ≤ room) :
    Calls Try.prog 21 #[.pointer (some ⟨b, 0, none⟩), schV (.slice a n c) cv t v] w fun e w' => e = .returned (.tuple #[]) ∧ Bld b (s ++ schText l t) w' ∧ PutFr b w w' := by
  obtain ⟨a1, n1, rfl⟩ := hv.shape
  obtain ⟨a2, n2, rfl⟩ := hw.shape
  have hbw := hb.lt
  have hn' : s.length + ((ctxText l).length + (T.text t).length) ≤ room := by unfold schText at hn; simpa using hn
  have HC := Lib.hid (fun o => putContext_any l hf b s _ (w.alloc o) (hb.alloc o) (hv.keep (keepT_alloc w o) (keepP_alloc w o)) hl (by omega))
  have HP := Lib.hid (put_ok ht b)
  have HB := Lib.hid hb.alloc
  have HV := Lib.hid hw; have HN := Lib.hid hn'
  have HNe := Lib.hid (show w.heap.size ≠ b by omega)
  clear hf ht hb hv hw hn hn'
  simp only [schV, tyV] at HP ⊢
  go_enter Try.func21, Try.ntmps21
  go_wp2_with (go_at_call 32; refine (HC.out _).mono ?_)
  rintro e w2 ⟨rfl, h1, h2⟩
  obtain ⟨d0, d1, d2, d3, d4⟩ := five_cells (h2.keeps (alloc_new w _) HNe.out (by decide))
  have H1 := Lib.hid h1
  have H2 := Lib.hid ((PutFr.alloc hbw _).trans h2)
  have HV2 := Lib.hid (HV.out.keep ((keepT_alloc w _).trans (KeepT.of_put h2 (HB.out _))))
  clear h1 h2
  go_wp2_with (go_at_call 18; refine (HP.out _ _ _ H1.out HV2.out ?_).mono ?_)
  · have := HN.out; simp only [List.length_append]; omega
  rintro e w3 ⟨rfl, h1, h2⟩
  have H3 := Lib.hid h1
  have H4 := Lib.hid h2
  clear h1 h2
  go_wp2
  go_end0
  exact ⟨rfl, by have := H3.out; unfold schText; simpa only [List.append_assoc] using this, H2.out.trans H4.out⟩

set_option maxHeartbeats 1000000 in
theorem textOf_scheme (l : List Pr) (t : T) (hf : ∀ p ∈ l, Fits p.2) (ht : Fits t) (a : Option Addr) (n c : Nat) (cv v : Value) (w : World) (hv : PrsAt w cv l) (hw : TysAt w v t.kids) (hl : l.length < 1152921504606846976) (hn : (schText l t).length ≤ room) :
    Calls Try.prog 20 #[schV (.slice a n c) cv t v, .func (.func 21) #[] #[]] w fun e w' => e = .returned (.string ⟨(schText l t).toArray⟩) ∧ Below w.heap.size w w' := by
  obtain ⟨a1, n1, rfl⟩ := hv.shape
  obtain ⟨a2, n2, rfl⟩ := hw.shape
  have hF : ∀ o, Bld (w.heap.size + 1) [] ((w.alloc o).alloc (.cells #[.pointer none, .slice none 0 0] 61)) := fun o => by
    have := bld_fresh (w.alloc o)
    simpa only [World.size_alloc] using this
  have hB : ∀ o1 o2, Below w.heap.size w ((w.alloc o1).alloc o2) := fun o1 o2 => ((Below.refl _ w).alloc (Nat.le_refl _) o1).alloc (show w.heap.size ≤ (w.alloc o1).heap.size by simp) o2
  have HP := Lib.hid (fun o => putScheme_any l t hf ht (w.heap.size + 1) [] a n c _ _ _ (hF o) (hv.keep (KeepT.of_below (hB _ _)) (KeepP.of_below (hB _ _))) (hw.keep (KeepT.of_below (hB _ _))) hl (by simpa using hn))
  have HB := Lib.hid hB
  clear hf ht hv hw hn hF hB
  simp only [schV] at HP ⊢
  go_enter Try.func20, Try.ntmps20
  go_wp2_with (go_at_call 21; refine (HP.out _).mono ?_)
  rintro e w2 ⟨rfl, h1, h2⟩
  rw [List.nil_append] at h1
  have H1 := Lib.hid h1
  have H2 := Lib.hid ((HB.out _ _).trans (h2.1.mono (Nat.le_succ _)))
  clear h1 h2
  go_wp2_with (go_at_call 26; refine (string_any _ _ _ H1.out).mono ?_)
  rintro e w3 ⟨rfl, h1⟩
  have H3 := Lib.hid (H2.out.trans (h1.mono (Nat.le_succ _)))
  clear h1
  go_wp2
  go_ret
  exact ⟨rfl, H3.out⟩

set_option maxHeartbeats 1000000 in
/-- The text of any scheme. -/
theorem scheme_any (l : List Pr) (t : T) (hf : ∀ p ∈ l, Fits p.2) (ht : Fits t) (a : Option Addr) (n c : Nat) (cv v : Value) (w : World) (hv : PrsAt w cv l) (hw : TysAt w v t.kids) (hl : l.length < 1152921504606846976) (hn : (schText l t).length ≤ room) :
    Calls Try.prog 10 #[schV (.slice a n c) cv t v] w fun e w' => e = .returned (.string ⟨(schText l t).toArray⟩) ∧ Below w.heap.size w w' := by
  obtain ⟨a1, n1, rfl⟩ := hv.shape
  obtain ⟨a2, n2, rfl⟩ := hw.shape
  have HT := Lib.hid (fun o => textOf_scheme l t hf ht a n c _ _ (w.alloc o) (hv.keep (keepT_alloc w o) (keepP_alloc w o)) (hw.keep (keepT_alloc w o)) hl hn)
  have HB := Lib.hid (fun o => (Below.refl _ w).alloc (Nat.le_refl _) o)
  clear hf ht hv hw hn
  simp only [schV] at HT ⊢
  go_enter Try.func10, Try.ntmps10
  go_wp2_with (go_at_call 20; refine (HT.out _).mono ?_)
  rintro e w2 ⟨rfl, h1⟩
  have H1 := Lib.hid ((HB.out _).trans (h1.mono (by simp)))
  clear h1
  go_wp2
  go_ret
  exact ⟨rfl, H1.out⟩
end Go.Proofs.Ytlfbmbbfcijedaa
