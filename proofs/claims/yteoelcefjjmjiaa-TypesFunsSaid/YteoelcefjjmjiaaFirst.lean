/- The chapter's example holds. -/
import Derived.Test.YteoelcefjjmjiaaTyFun
import Derived.Test.YteoelcefjjmjiaaTyVars
namespace Go.Proofs.Yteoelcefjjmjiaa
open Go.RowKit
attribute [local go_sem] Oper.semAt_some

def vA : T := .var ⟨#[97]⟩
def fAA : T := .fn vA vA
theorem fAA_vars : fvs [] [] [fAA] = [⟨#[97]⟩] := by simp [fvs, fv, fAA, vA]
theorem nm_var {n : ByteArray} (h : n.size ≤ 1000) : Nm (.var n) := .mk _ h (fun k hk => by cases hk)
theorem nm_fn {x y : T} (hx : Nm x) (hy : Nm y) : Nm (.fn x y) := .mk _ (show (0 : Nat) ≤ 1000 by decide) (fun k hk => by
  simp [T.kids] at hk
  rcases hk with rfl | rfl
  · exact hx
  · exact hy)
theorem at_var (w : World) (n : ByteArray) (a : Option Addr) (c : Nat) : TyAt w (.var n) (.int .i64 1) (.string n) (.slice a 0 c) := TyAt.mk (T.var n) (TysAt.nil w a c)

set_option maxHeartbeats 1000000 in
theorem first_any (w : World) : Calls Try.prog 7 #[] w fun e w' => e = .returned (.bool true) ∧ Below w.heap.size w w' := by
  go_enter Try.func7, Try.ntmps7
  go_wp2_with (go_at_call 26; refine (tvar_any _ _).mono ?_)
  rintro e w1 ⟨rfl, h1⟩
  have H1 := Lib.hid h1; clear h1
  simp only [tyV, show (T.var ⟨#[97]⟩).kind = 1 from rfl, show (T.var ⟨#[97]⟩).name = ⟨#[97]⟩ from rfl]
  have hk : ∀ o : Obj, TysAt ((w1.alloc o).alloc (.cells #[.int .i64 1, .string ⟨#[97]⟩, .slice none 0 0, .int .i64 1, .string ⟨#[97]⟩, .slice none 0 0] 29)) (.slice (some ⟨w1.heap.size + 1, 0, none⟩) 2 2) ([vA] ++ [vA]) :=
    fun o => TysAt.two (by simp) (at_var _ _ _ _) (at_var _ _ _ _)
  have HF := Lib.hid (fun o => tfun_any [vA] vA _ _ (by decide) (hk o))
  have HB := Lib.hid (fun o1 o2 => H1.out.trans (((Below.refl _ w1).alloc (Nat.le_refl _) o1).alloc (show w1.heap.size ≤ (w1.alloc o1).heap.size by simp) o2 |>.mono H1.out.size))
  clear hk
  simp only [tyV, show (funT [vA] vA) = fAA from rfl, show fAA.kind = 3 from rfl, show fAA.name = ⟨#[]⟩ from rfl, show fAA.kids.length = 2 from rfl] at HF
  go_wp2_with (go_at_call 24; refine (HF.out _).mono ?_)
  rintro e w2 ⟨⟨a, c, rfl, h1⟩, h2⟩
  have HV := Lib.hid (show Calls Try.prog 11 #[.slice (some ⟨w2.heap.size, 0, none⟩) 1 1] (w2.alloc (.cells #[.int .i64 3, .string ⟨#[]⟩, .slice a 2 c] 29)) _ from
    vars_any [fAA] (fun k hk => by simp at hk; subst hk; exact nm_fn (nm_var (by decide)) (nm_var (by decide))) (by decide) _ _ _ (TysAt.one rfl (TyAt.mk fAA h1.tys)))
  rw [fAA_vars] at HV
  have H2 := Lib.hid ((HB.out _ _).trans (h2.mono (by simp; have := H1.out.size; omega)))
  clear h1 h2 HF
  go_wp2_with (go_at_call 11; refine (HV.out).mono ?_)
  rintro e w3 ⟨⟨v, rfl, ⟨b, cap, rfl, h0 | ⟨g, rfl, hc, cs, fz, hg, hi⟩⟩⟩, h3, h4⟩
  · cases h0
  have c0 : w3.cell? ⟨g, 0, none⟩ = some (.string ⟨#[97]⟩) := by rw [Lib.cell_of_heap hg]; exact hi 0 (by decide)
  have H4 := Lib.hid ((H2.out.alloc H2.out.size _).trans (h4.mono (by simp; have := H2.out.size; omega)))
  have HG := Lib.hid (Array.getElem?_eq_some_iff.1 hg).1
  clear h3 h4 hi hg
  simp only [List.length_cons, List.length_nil] at hc ⊢
  go_wp2
  go_ret
  exact ⟨rfl, H4.out⟩
end Go.Proofs.Yteoelcefjjmjiaa
