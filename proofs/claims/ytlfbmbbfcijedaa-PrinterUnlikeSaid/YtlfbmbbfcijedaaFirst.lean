/- The chapter's example holds. -/
import Derived.Test.YtlfbmbbfcijedaaScheme
namespace Go.Proofs.Ytlfbmbbfcijedaa
open Go.RowKit
attribute [local go_sem] Oper.semAt_some

def vA : T := .var ⟨#[97]⟩
def fAA : T := .fn vA vA
theorem fits_var (n : ByteArray) : Fits (.var n) := .mk _ (by simp [T.kids]) (by simp [T.kids])
theorem fits_fn {x y : T} (hx : Fits x) (hy : Fits y) : Fits (.fn x y) := .mk _ (by simp [T.kids]) (by
  intro k hk
  simp [T.kids] at hk
  rcases hk with rfl | rfl
  · exact hx
  · exact hy)
theorem fits_all {n : ByteArray} {x : T} (hx : Fits x) : Fits (.all n x) := .mk _ (by simp [T.kids]) (by
  intro k hk
  simp [T.kids] at hk
  subst hk
  exact hx)
theorem fits_con0 (n : ByteArray) : Fits (.con n []) := .mk _ (by simp [T.kids]) (by simp [T.kids])
theorem fits_con1 {n : ByteArray} {x : T} (hx : Fits x) : Fits (.con n [x]) := .mk _ (by simp [T.kids]) (by
  intro k hk
  simp [T.kids] at hk
  subst hk
  exact hx)
theorem fits_con2 {n : ByteArray} {x y : T} (hx : Fits x) (hy : Fits y) : Fits (.con n [x, y]) := .mk _ (by simp [T.kids]) (by
  intro k hk
  simp [T.kids] at hk
  rcases hk with rfl | rfl
  · exact hx
  · exact hy)
theorem at_var (w : World) (n : ByteArray) (a : Option Addr) (c : Nat) : TyAt w (.var n) (.int .i64 1) (.string n) (.slice a 0 c) := TyAt.mk (T.var n) (TysAt.nil w a c)
theorem at_con (w : World) (n : ByteArray) (l : List T) (v : Value) (h : TysAt w v l) : TyAt w (.con n l) (.int .i64 2) (.string n) v := TyAt.mk (T.con n l) h
theorem at_fn (w : World) (x y : T) (v : Value) (h : TysAt w v [x, y]) : TyAt w (.fn x y) (.int .i64 3) (.string ⟨#[]⟩) v := TyAt.mk (T.fn x y) h
theorem at_all (w : World) (n : ByteArray) (x : T) (v : Value) (h : TysAt w v [x]) : TyAt w (.all n x) (.int .i64 4) (.string n) v := TyAt.mk (T.all n x) h

theorem kept_two (w : World) (o1 o2 : Obj) : KeepT w ((w.alloc o1).alloc o2) := (keepT_alloc w o1).trans (keepT_alloc _ o2)

set_option maxHeartbeats 1000000 in
theorem first_any (w : World) : Calls Try.prog 5 #[] w fun e w' => e = .returned (.bool true) ∧ Below w.heap.size w w' := by
  have hk : ∀ o : Obj, TysAt ((w.alloc o).alloc (.cells #[.int .i64 1, .string ⟨#[97]⟩, .slice none 0 0, .int .i64 1, .string ⟨#[97]⟩, .slice none 0 0] 29)) (.slice (some ⟨w.heap.size + 1, 0, none⟩) 2 2) [vA, vA] :=
    fun o => TysAt.two (by simp) (at_var _ _ _ _) (at_var _ _ _ _)
  have HT := Lib.hid (fun o => type_any fAA (fits_fn (fits_var _) (fits_var _)) _ _ (hk o) (by decide))
  have HB := Lib.hid (fun o1 o2 => ((Below.refl _ w).alloc (Nat.le_refl _) o1).alloc (show w.heap.size ≤ (w.alloc o1).heap.size by simp) o2)
  have hs : (T.text fAA).toArray = #[97, 32, 45, 62, 32, 97] := by decide
  rw [hs] at HT
  clear hs hk
  simp only [tyV, show fAA.kind = 3 from rfl, show fAA.name = ⟨#[]⟩ from rfl] at HT
  go_enter Try.func5, Try.ntmps5
  go_wp2_with (go_at_call 8; refine (HT.out _).mono ?_)
  rintro e w2 ⟨rfl, h1⟩
  have H1 := Lib.hid ((HB.out _ _).trans (h1.mono (by simp; omega)))
  clear h1
  go_wp2
  go_ret
  exact ⟨rfl, H1.out⟩
end Go.Proofs.Ytlfbmbbfcijedaa
