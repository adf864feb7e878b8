/- The text of a type. -/
import Derived.Test.YtlfbmbbfcijedaaPutType
namespace Go.Proofs.Ytlfbmbbfcijedaa
open Go.RowKit
attribute [local go_sem] Oper.semAt_some

theorem put_ok {t : T} (h : Fits t) : PutOK t := by
  induction h with
  | mk t h1 _ ih =>
    cases t with
    | var n => exact putName_of _ (.inl rfl) (by simp [T.text, T.kids, T.texts, T.name]) ih h1
    | con n l => exact putName_of _ (.inr rfl) (by simp [T.text, T.kids, T.name]) ih h1
    | fn x y => exact putFn_of x y (ih x (by simp [T.kids])) (ih y (by simp [T.kids]))
    | all n x => exact putAll_of n x (ih x (by simp [T.kids]))

theorem bld_fresh (w : World) : Bld w.heap.size [] (w.alloc (.cells #[.pointer none, .slice none 0 0] 61)) :=
  .inl ⟨Nat.le_refl _, .slice none 0 0, alloc_new w _, ⟨rfl, .inl ⟨rfl, rfl⟩⟩, by simp [Value.ownBlock]⟩

set_option maxHeartbeats 1000000 in
theorem textOf_type (t : T) (hf : Fits t) (v : Value) (w : World) (hv : TysAt w v t.kids) (hn : (T.text t).length ≤ room) :
    Calls Try.prog 17 #[tyV t v, .func (.func 18) #[] #[]] w fun e w' => e = .returned (.string ⟨(T.text t).toArray⟩) ∧ Below w.heap.size w w' := by
  obtain ⟨a, c, rfl⟩ := hv.shape
  have HP := Lib.hid (put_ok hf)
  have HV := Lib.hid hv
  have HN := Lib.hid hn
  clear hf hv hn
  simp only [tyV]
  go_enter Try.func17, Try.ntmps17
  have hf : ∀ o, Bld (w.heap.size + 1) [] ((w.alloc o).alloc (.cells #[.pointer none, .slice none 0 0] 61)) := fun o => by
    have := bld_fresh (w.alloc o)
    simpa only [World.size_alloc] using this
  have HF := Lib.hid hf; clear hf
  have HK := Lib.hid (fun o1 o2 => (keepT_alloc w o1).trans (keepT_alloc (w.alloc o1) o2))
  have HB := Lib.hid (fun o1 o2 => ((Below.refl _ w).alloc (Nat.le_refl _) o1).alloc (show w.heap.size ≤ (w.alloc o1).heap.size by simp) o2)
  go_wp2_with (go_at_call 18; refine (HP.out _ _ _ _ (HF.out _) (HV.out.keep (HK.out _ _)) ?_).mono ?_)
  · simpa using HN.out
  rintro e w2 ⟨rfl, h1, h2⟩
  rw [List.nil_append] at h1
  have H1 := Lib.hid h1
  have H2 := Lib.hid ((HB.out _ _).trans (h2.1.mono (Nat.le_succ _)))
  clear h1 h2
  go_wp2_with (go_at_call 26; refine (string_any _ _ _ H1.out).mono ?_)
  rintro e w3 ⟨rfl, h1⟩
  have H3 := Lib.hid (H2.out.trans (h1.mono (Nat.le_succ _)))
  clear h1
  go_wp2
  go_ret
  exact ⟨rfl, H3.out⟩

set_option maxHeartbeats 1000000 in
/-- The text of any type. -/
theorem type_any (t : T) (hf : Fits t) (v : Value) (w : World) (hv : TysAt w v t.kids) (hn : (T.text t).length ≤ room) :
    Calls Try.prog 8 #[tyV t v] w fun e w' => e = .returned (.string ⟨(T.text t).toArray⟩) ∧ Below w.heap.size w w' := by
  obtain ⟨a, c, rfl⟩ := hv.shape
  have HT := Lib.hid (fun o => textOf_type t hf _ (w.alloc o) (hv.keep (keepT_alloc w o)) hn)
  have HB := Lib.hid (fun o => (Below.refl _ w).alloc (Nat.le_refl _) o)
  clear hf hv hn
  simp only [tyV] at HT ⊢
  go_enter Try.func8, Try.ntmps8
  go_wp2_with (go_at_call 17; refine (HT.out _).mono ?_)
  rintro e w2 ⟨rfl, h1⟩
  have H1 := Lib.hid ((HB.out _).trans (h1.mono (by simp)))
  clear h1
  go_wp2
  go_ret
  exact ⟨rfl, H1.out⟩
end Go.Proofs.Ytlfbmbbfcijedaa
