/- PrinterTypes, walked. -/
import Derived.Test.YtlfbmbbfcijedaaScheme
namespace Go.Proofs.Ytlfbmbbfcijedaa
open Go.RowKit
attribute [local go_sem] Oper.semAt_some

def vA : T := .var ⟨#[97]⟩
def fAA : T := .fn vA vA
theorem fits_var (n : ByteArray) : Fits (.var n) := .mk _ (by simp [T.kids]) (by simp [T.kids])
theorem fits_fn {x y : T} (hx : Fits x) (hy : Fits y) : Fits (.fn x y) := .mk _ (by simp [T.kids]) (by
  intro k hk
  simp [T.kids] at hk
  rcases hk with rfl | rfl
  · exact hx
  · exact hy)
theorem fits_all {n : ByteArray} {x : T} (hx : Fits x) : Fits (.all n x) := .mk _ (by simp [T.kids]) (by
  intro k hk
  simp [T.kids] at hk
  subst hk
  exact hx)
theorem fits_con0 (n : ByteArray) : Fits (.con n []) := .mk _ (by simp [T.kids]) (by simp [T.kids])
theorem fits_con1 {n : ByteArray} {x : T} (hx : Fits x) : Fits (.con n [x]) := .mk _ (by simp [T.kids]) (by
  intro k hk
  simp [T.kids] at hk
  subst hk
  exact hx)
theorem fits_con2 {n : ByteArray} {x y : T} (hx : Fits x) (hy : Fits y) : Fits (.con n [x, y]) := .mk _ (by simp [T.kids]) (by
  intro k hk
  simp [T.kids] at hk
  rcases hk with rfl | rfl
  · exact hx
  · exact hy)
theorem at_var (w : World) (n : ByteArray) (a : Option Addr) (c : Nat) : TyAt w (.var n) (.int .i64 1) (.string n) (.slice a 0 c) := TyAt.mk (T.var n) (TysAt.nil w a c)
theorem at_con (w : World) (n : ByteArray) (l : List T) (v : Value) (h : TysAt w v l) : TyAt w (.con n l) (.int .i64 2) (.string n) v := TyAt.mk (T.con n l) h
theorem at_fn (w : World) (x y : T) (v : Value) (h : TysAt w v [x, y]) : TyAt w (.fn x y) (.int .i64 3) (.string ⟨#[]⟩) v := TyAt.mk (T.fn x y) h
theorem at_all (w : World) (n : ByteArray) (x : T) (v : Value) (h : TysAt w v [x]) : TyAt w (.all n x) (.int .i64 4) (.string n) v := TyAt.mk (T.all n x) h

theorem kept_two (w : World) (o1 o2 : Obj) : KeepT w ((w.alloc o1).alloc o2) := (keepT_alloc w o1).trans (keepT_alloc _ o2)

set_option maxHeartbeats 1000000 in
theorem first_any (w : World) : Calls Try.prog 5 #[] w fun e w' => e = .returned (.bool true) ∧ Below w.heap.size w w' := by
  have hk : ∀ o : Obj, TysAt ((w.alloc o).alloc (.cells #[.int .i64 1, .string ⟨#[97]⟩, .slice none 0 0, .int .i64 1, .string ⟨#[97]⟩, .slice none 0 0] 29)) (.slice (some ⟨w.heap.size + 1, 0, none⟩) 2 2) [vA, vA] :=
    fun o => TysAt.two (by simp) (at_var _ _ _ _) (at_var _ _ _ _)
  have HT := Lib.hid (fun o => type_any fAA (fits_fn (fits_var _) (fits_var _)) _ _ (hk o) (by decide))
  have HB := Lib.hid (fun o1 o2 => ((Below.refl _ w).alloc (Nat.le_refl _) o1).alloc (show w.heap.size ≤ (w.alloc o1).heap.size by simp) o2)
  have hs : (T.text fAA).toArray = #[97, 32, 45, 62, 32, 97] := by decide
  rw [hs] at HT
  clear hs hk
  simp only [tyV, show fAA.kind = 3 from rfl, show fAA.name = ⟨#[]⟩ from rfl] at HT
  go_enter Try.func5, Try.ntmps5
  go_wp2_with (go_at_call 8; refine (HT.out _).mono ?_)
  rintro e w2 ⟨rfl, h1⟩
  have H1 := Lib.hid ((HB.out _ _).trans (h1.mono (by simp; omega)))
  clear h1
  go_wp2
  go_ret
  exact ⟨rfl, H1.out⟩

def tList : T := .con ⟨#[76, 105, 115, 116]⟩ [vA]
def tInt : T := .con ⟨#[73, 110, 116]⟩ []
def tQ : T := .all ⟨#[98]⟩ fAA
def nP : ByteArray := ⟨#[80]⟩
def typesL : List T := [fAA, .fn fAA vA, .fn vA fAA, .con nP [tList, tInt], .con nP [fAA, vA], .fn tList tInt, tQ, .fn tQ tQ, .con nP [tQ]]
def wantL : List ByteArray := [⟨#[97, 32, 45, 62, 32, 97]⟩, ⟨#[40, 97, 32, 45, 62, 32, 97, 41, 32, 45, 62, 32, 97]⟩, ⟨#[97, 32, 45, 62, 32, 97, 32, 45, 62, 32, 97]⟩, ⟨#[80, 32, 40, 76, 105, 115, 116, 32, 97, 41, 32, 73, 110, 116]⟩, ⟨#[80, 32, 40, 97, 32, 45, 62, 32, 97, 41, 32, 97]⟩, ⟨#[76, 105, 115, 116, 32, 97, 32, 45, 62, 32, 73, 110, 116]⟩, ⟨#[102, 111, 114, 97, 108, 108, 32, 98, 46, 32, 97, 32, 45, 62, 32, 97]⟩, ⟨#[40, 102, 111, 114, 97, 108, 108, 32, 98, 46, 32, 97, 32, 45, 62, 32, 97, 41, 32, 45, 62, 32, 102, 111, 114, 97, 108, 108, 32, 98, 46, 32, 97, 32, 45, 62, 32, 97]⟩, ⟨#[80, 32, 40, 102, 111, 114, 97, 108, 108, 32, 98, 46, 32, 97, 32, 45, 62, 32, 97, 41]⟩]
def headL : List ByteArray := [⟨#[]⟩, ⟨#[67, 32, 40, 76, 105, 115, 116, 32, 97, 41, 32, 61, 62, 32]⟩, ⟨#[40, 67, 32, 40, 76, 105, 115, 116, 32, 97, 41, 44, 32, 68, 32, 97, 41, 32, 61, 62, 32]⟩]
def predsL : List Pr := [(⟨#[67]⟩, tList), (⟨#[68]⟩, vA)]
theorem fits_types : ∀ t ∈ typesL, Fits t := by
  have a := fits_var ⟨#[97]⟩
  have f := fits_fn a a
  have l := fits_con1 (n := ⟨#[76, 105, 115, 116]⟩) a
  have i := fits_con0 ⟨#[73, 110, 116]⟩
  have q := fits_all (n := ⟨#[98]⟩) f
  intro t ht
  simp only [typesL, List.mem_cons, List.not_mem_nil, or_false] at ht
  rcases ht with rfl | rfl | rfl | rfl | rfl | rfl | rfl | rfl | rfl
  · exact f
  · exact fits_fn f a
  · exact fits_fn a f
  · exact fits_con2 l i
  · exact fits_con2 f a
  · exact fits_fn l i
  · exact q
  · exact fits_fn q q
  · exact fits_con1 q
theorem fits_preds : ∀ p ∈ predsL, Fits p.2 := by
  intro p hp
  simp only [predsL, List.mem_cons, List.not_mem_nil, or_false] at hp
  rcases hp with rfl | rfl
  · exact fits_con1 (fits_var _)
  · exact fits_var _
theorem types_text : ∀ k (h : k < 9), (T.text (typesL[k]'h)).toArray = (wantL[k]'h).data := by decide
theorem heads_text : ∀ k (h : k < 3), (ctxText (predsL.take k)).toArray = (headL[k]'h).data := by decide
theorem types_small : ∀ k (h : k < 9), (T.text (typesL[k]'h)).length ≤ 100 := by decide
theorem heads_small : ∀ k, k < 3 → (ctxText (predsL.take k)).length ≤ 100 := by decide

theorem TysAt.ones {w : World} {t : T} {k n v : Value} {g : Nat} (hg : w.heap[g]? = some (.cells #[k, n, v] 29 (0, 0))) (h : TyAt w t k n v) : TysAt w (.slice (some ⟨g, 0, none⟩) 1 1) [t] := by
  refine .inr ⟨g, 1, #[k, n, v], (0, 0), fun _ => k, fun _ => n, fun _ => v, rfl, hg, Nat.le_refl _, ?_, ?_⟩
  · intro i hi
    obtain rfl : i = 0 := by simpa using hi
    exact ⟨rfl, rfl, rfl⟩
  · intro i hi
    obtain rfl : i = 0 := by simpa using hi
    exact h
theorem TysAt.twos {w : World} {t u : T} {k n v k' n' v' : Value} {g : Nat} (hg : w.heap[g]? = some (.cells #[k, n, v, k', n', v'] 29 (0, 0))) (h : TyAt w t k n v) (h' : TyAt w u k' n' v') : TysAt w (.slice (some ⟨g, 0, none⟩) 2 2) [t, u] := by
  refine .inr ⟨g, 2, #[k, n, v, k', n', v'], (0, 0), fun i => if i = 0 then k else k', fun i => if i = 0 then n else n', fun i => if i = 0 then v else v', rfl, hg, Nat.le_refl _, ?_, ?_⟩
  · intro i hi
    match i, hi with
    | 0, _ => exact ⟨rfl, rfl, rfl⟩
    | 1, _ => exact ⟨rfl, rfl, rfl⟩
    | n + 2, hi => simp at hi; omega
  · intro i hi
    match i, hi with
    | 0, _ => exact h
    | 1, _ => exact h'
    | n + 2, hi => simp at hi; omega

/-- The memory behind the law's first lines. -/
structure Laid (n : Nat) (W : World) : Prop where
  b0 : W.heap[n]? = some (.cells #[.int .i64 1, .string ⟨#[97]⟩, .slice none 0 0] 29 (0, 0))
  b1 : W.heap[n + 1]? = some (.cells #[.int .i64 1, .string ⟨#[97]⟩, .slice none 0 0, .int .i64 1, .string ⟨#[97]⟩, .slice none 0 0] 29 (0, 0))
  b3 : W.heap[n + 1 + 1 + 1]? = some (.cells #[.int .i64 1, .string ⟨#[97]⟩, .slice none 0 0] 29 (0, 0))
  b4 : W.heap[n + 1 + 1 + 1 + 1]? = some (.cells #[.int .i64 2, .string ⟨#[76, 105, 115, 116]⟩, .slice (some ⟨n + 1 + 1 + 1, 0, none⟩) 1 1] 29 (0, 0))
  b6 : W.heap[n + 1 + 1 + 1 + 1 + 1 + 1]? = some (.cells #[.int .i64 3, .string ⟨#[]⟩, .slice (some ⟨n + 1, 0, none⟩) 2 2] 29 (0, 0))
  b8 : W.heap[n + 1 + 1 + 1 + 1 + 1 + 1 + 1 + 1]? = some (.cells #[.int .i64 3, .string ⟨#[]⟩, .slice (some ⟨n + 1, 0, none⟩) 2 2, .int .i64 1, .string ⟨#[97]⟩, .slice none 0 0] 29 (0, 0))
  b9 : W.heap[n + 1 + 1 + 1 + 1 + 1 + 1 + 1 + 1 + 1]? = some (.cells #[.int .i64 1, .string ⟨#[97]⟩, .slice none 0 0, .int .i64 3, .string ⟨#[]⟩, .slice (some ⟨n + 1, 0, none⟩) 2 2] 29 (0, 0))
  b10 : W.heap[n + 1 + 1 + 1 + 1 + 1 + 1 + 1 + 1 + 1 + 1]? = some (.cells #[.int .i64 2, .string ⟨#[76, 105, 115, 116]⟩, .slice (some ⟨n + 1 + 1 + 1, 0, none⟩) 1 1, .int .i64 2, .string ⟨#[73, 110, 116]⟩, .slice none 0 0] 29 (0, 0))
  b11 : W.heap[n + 1 + 1 + 1 + 1 + 1 + 1 + 1 + 1 + 1 + 1 + 1]? = some (.cells #[.int .i64 3, .string ⟨#[]⟩, .slice (some ⟨n + 1, 0, none⟩) 2 2, .int .i64 1, .string ⟨#[97]⟩, .slice none 0 0] 29 (0, 0))
  b12 : W.heap[n + 1 + 1 + 1 + 1 + 1 + 1 + 1 + 1 + 1 + 1 + 1 + 1]? = some (.cells #[.int .i64 2, .string ⟨#[76, 105, 115, 116]⟩, .slice (some ⟨n + 1 + 1 + 1, 0, none⟩) 1 1, .int .i64 2, .string ⟨#[73, 110, 116]⟩, .slice none 0 0] 29 (0, 0))
  b13 : W.heap[n + 1 + 1 + 1 + 1 + 1 + 1 + 1 + 1 + 1 + 1 + 1 + 1 + 1]? = some (.cells #[.int .i64 4, .string ⟨#[98]⟩, .slice (some ⟨n + 1 + 1 + 1 + 1 + 1 + 1, 0, none⟩) 1 1, .int .i64 4, .string ⟨#[98]⟩, .slice (some ⟨n + 1 + 1 + 1 + 1 + 1 + 1, 0, none⟩) 1 1] 29 (0, 0))
  b14 : W.heap[n + 1 + 1 + 1 + 1 + 1 + 1 + 1 + 1 + 1 + 1 + 1 + 1 + 1 + 1]? = some (.cells #[.int .i64 4, .string ⟨#[98]⟩, .slice (some ⟨n + 1 + 1 + 1 + 1 + 1 + 1, 0, none⟩) 1 1] 29 (0, 0))
  b15 : W.heap[n + 1 + 1 + 1 + 1 + 1 + 1 + 1 + 1 + 1 + 1 + 1 + 1 + 1 + 1 + 1]? = some (.cells #[.int .i64 3, .string ⟨#[]⟩, .slice (some ⟨n + 1, 0, none⟩) 2 2, .int .i64 3, .string ⟨#[]⟩, .slice (some ⟨n + 1 + 1 + 1 + 1 + 1 + 1 + 1 + 1, 0, none⟩) 2 2, .int .i64 3, .string ⟨#[]⟩, .slice (some ⟨n + 1 + 1 + 1 + 1 + 1 + 1 + 1 + 1 + 1, 0, none⟩) 2 2, .int .i64 2, .string ⟨#[80]⟩, .slice (some ⟨n + 1 + 1 + 1 + 1 + 1 + 1 + 1 + 1 + 1 + 1, 0, none⟩) 2 2, .int .i64 2, .string ⟨#[80]⟩, .slice (some ⟨n + 1 + 1 + 1 + 1 + 1 + 1 + 1 + 1 + 1 + 1 + 1, 0, none⟩) 2 2, .int .i64 3, .string ⟨#[]⟩, .slice (some ⟨n + 1 + 1 + 1 + 1 + 1 + 1 + 1 + 1 + 1 + 1 + 1 + 1, 0, none⟩) 2 2, .int .i64 4, .string ⟨#[98]⟩, .slice (some ⟨n + 1 + 1 + 1 + 1 + 1 + 1, 0, none⟩) 1 1, .int .i64 3, .string ⟨#[]⟩, .slice (some ⟨n + 1 + 1 + 1 + 1 + 1 + 1 + 1 + 1 + 1 + 1 + 1 + 1 + 1, 0, none⟩) 2 2, .int .i64 2, .string ⟨#[80]⟩, .slice (some ⟨n + 1 + 1 + 1 + 1 + 1 + 1 + 1 + 1 + 1 + 1 + 1 + 1 + 1 + 1, 0, none⟩) 1 1] 29 (0, 0))
  b16 : W.heap[n + 1 + 1 + 1 + 1 + 1 + 1 + 1 + 1 + 1 + 1 + 1 + 1 + 1 + 1 + 1 + 1]? = some (.cells #[.string ⟨#[97, 32, 45, 62, 32, 97]⟩, .string ⟨#[40, 97, 32, 45, 62, 32, 97, 41, 32, 45, 62, 32, 97]⟩, .string ⟨#[97, 32, 45, 62, 32, 97, 32, 45, 62, 32, 97]⟩, .string ⟨#[80, 32, 40, 76, 105, 115, 116, 32, 97, 41, 32, 73, 110, 116]⟩, .string ⟨#[80, 32, 40, 97, 32, 45, 62, 32, 97, 41, 32, 97]⟩, .string ⟨#[76, 105, 115, 116, 32, 97, 32, 45, 62, 32, 73, 110, 116]⟩, .string ⟨#[102, 111, 114, 97, 108, 108, 32, 98, 46, 32, 97, 32, 45, 62, 32, 97]⟩, .string ⟨#[40, 102, 111, 114, 97, 108, 108, 32, 98, 46, 32, 97, 32, 45, 62, 32, 97, 41, 32, 45, 62, 32, 102, 111, 114, 97, 108, 108, 32, 98, 46, 32, 97, 32, 45, 62, 32, 97]⟩, .string ⟨#[80, 32, 40, 102, 111, 114, 97, 108, 108, 32, 98, 46, 32, 97, 32, 45, 62, 32, 97, 41]⟩] 9 (0, 0))
theorem Laid.types {n : Nat} {W : World} (h : Laid n W) : TysAt W (.slice (some ⟨n + 1 + 1 + 1 + 1 + 1 + 1 + 1 + 1 + 1 + 1 + 1 + 1 + 1 + 1 + 1, 0, none⟩) 9 9) typesL ∧ TysAt W (.slice (some ⟨n + 1 + 1 + 1, 0, none⟩) 1 1) tList.kids := by
  have a : TyAt W vA (.int .i64 1) (.string ⟨#[97]⟩) (.slice none 0 0) := at_var W _ none 0
  have i : TyAt W tInt (.int .i64 2) (.string ⟨#[73, 110, 116]⟩) (.slice none 0 0) := at_con W _ _ _ (TysAt.nil _ _ _)
  have f := at_fn W _ _ _ (TysAt.twos h.b1 a a)
  have l := at_con W ⟨#[76, 105, 115, 116]⟩ _ _ (TysAt.ones h.b3 a)
  have q := at_all W ⟨#[98]⟩ _ _ (TysAt.ones h.b6 f)
  refine ⟨?_, TysAt.ones h.b3 a⟩
  refine .inr ⟨n + 1 + 1 + 1 + 1 + 1 + 1 + 1 + 1 + 1 + 1 + 1 + 1 + 1 + 1 + 1, 9, _, (0, 0), fun i => (#[.int .i64 3, .string ⟨#[]⟩, .slice (some ⟨n + 1, 0, none⟩) 2 2, .int .i64 3, .string ⟨#[]⟩, .slice (some ⟨n + 1 + 1 + 1 + 1 + 1 + 1 + 1 + 1, 0, none⟩) 2 2, .int .i64 3, .string ⟨#[]⟩, .slice (some ⟨n + 1 + 1 + 1 + 1 + 1 + 1 + 1 + 1 + 1, 0, none⟩) 2 2, .int .i64 2, .string ⟨#[80]⟩, .slice (some ⟨n + 1 + 1 + 1 + 1 + 1 + 1 + 1 + 1 + 1 + 1, 0, none⟩) 2 2, .int .i64 2, .string ⟨#[80]⟩, .slice (some ⟨n + 1 + 1 + 1 + 1 + 1 + 1 + 1 + 1 + 1 + 1 + 1, 0, none⟩) 2 2, .int .i64 3, .string ⟨#[]⟩, .slice (some ⟨n + 1 + 1 + 1 + 1 + 1 + 1 + 1 + 1 + 1 + 1 + 1 + 1, 0, none⟩) 2 2, .int .i64 4, .string ⟨#[98]⟩, .slice (some ⟨n + 1 + 1 + 1 + 1 + 1 + 1, 0, none⟩) 1 1, .int .i64 3, .string ⟨#[]⟩, .slice (some ⟨n + 1 + 1 + 1 + 1 + 1 + 1 + 1 + 1 + 1 + 1 + 1 + 1 + 1, 0, none⟩) 2 2, .int .i64 2, .string ⟨#[80]⟩, .slice (some ⟨n + 1 + 1 + 1 + 1 + 1 + 1 + 1 + 1 + 1 + 1 + 1 + 1 + 1 + 1, 0, none⟩) 1 1] : Array Value).getD (i * 3) undef, fun i => (#[.int .i64 3, .string ⟨#[]⟩, .slice (some ⟨n + 1, 0, none⟩) 2 2, .int .i64 3, .string ⟨#[]⟩, .slice (some ⟨n + 1 + 1 + 1 + 1 + 1 + 1 + 1 + 1, 0, none⟩) 2 2, .int .i64 3, .string ⟨#[]⟩, .slice (some ⟨n + 1 + 1 + 1 + 1 + 1 + 1 + 1 + 1 + 1, 0, none⟩) 2 2, .int .i64 2, .string ⟨#[80]⟩, .slice (some ⟨n + 1 + 1 + 1 + 1 + 1 + 1 + 1 + 1 + 1 + 1, 0, none⟩) 2 2, .int .i64 2, .string ⟨#[80]⟩, .slice (some ⟨n + 1 + 1 + 1 + 1 + 1 + 1 + 1 + 1 + 1 + 1 + 1, 0, none⟩) 2 2, .int .i64 3, .string ⟨#[]⟩, .slice (some ⟨n + 1 + 1 + 1 + 1 + 1 + 1 + 1 + 1 + 1 + 1 + 1 + 1, 0, none⟩) 2 2, .int .i64 4, .string ⟨#[98]⟩, .slice (some ⟨n + 1 + 1 + 1 + 1 + 1 + 1, 0, none⟩) 1 1, .int .i64 3, .string ⟨#[]⟩, .slice (some ⟨n + 1 + 1 + 1 + 1 + 1 + 1 + 1 + 1 + 1 + 1 + 1 + 1 + 1, 0, none⟩) 2 2, .int .i64 2, .string ⟨#[80]⟩, .slice (some ⟨n + 1 + 1 + 1 + 1 + 1 + 1 + 1 + 1 + 1 + 1 + 1 + 1 + 1 + 1, 0, none⟩) 1 1] : Array Value).getD (i * 3 + 1) undef, fun i => (#[.int .i64 3, .string ⟨#[]⟩, .slice (some ⟨n + 1, 0, none⟩) 2 2, .int .i64 3, .string ⟨#[]⟩, .slice (some ⟨n + 1 + 1 + 1 + 1 + 1 + 1 + 1 + 1, 0, none⟩) 2 2, .int .i64 3, .string ⟨#[]⟩, .slice (some ⟨n + 1 + 1 + 1 + 1 + 1 + 1 + 1 + 1 + 1, 0, none⟩) 2 2, .int .i64 2, .string ⟨#[80]⟩, .slice (some ⟨n + 1 + 1 + 1 + 1 + 1 + 1 + 1 + 1 + 1 + 1, 0, none⟩) 2 2, .int .i64 2, .string ⟨#[80]⟩, .slice (some ⟨n + 1 + 1 + 1 + 1 + 1 + 1 + 1 + 1 + 1 + 1 + 1, 0, none⟩) 2 2, .int .i64 3, .string ⟨#[]⟩, .slice (some ⟨n + 1 + 1 + 1 + 1 + 1 + 1 + 1 + 1 + 1 + 1 + 1 + 1, 0, none⟩) 2 2, .int .i64 4, .string ⟨#[98]⟩, .slice (some ⟨n + 1 + 1 + 1 + 1 + 1 + 1, 0, none⟩) 1 1, .int .i64 3, .string ⟨#[]⟩, .slice (some ⟨n + 1 + 1 + 1 + 1 + 1 + 1 + 1 + 1 + 1 + 1 + 1 + 1 + 1, 0, none⟩) 2 2, .int .i64 2, .string ⟨#[80]⟩, .slice (some ⟨n + 1 + 1 + 1 + 1 + 1 + 1 + 1 + 1 + 1 + 1 + 1 + 1 + 1 + 1, 0, none⟩) 1 1] : Array Value).getD (i * 3 + 2) undef, rfl, h.b15, Nat.le_refl _, ?_, ?_⟩
  · intro i hi
    match i, hi with
    | 0, _ => exact ⟨rfl, rfl, rfl⟩
    | 1, _ => exact ⟨rfl, rfl, rfl⟩
    | 2, _ => exact ⟨rfl, rfl, rfl⟩
    | 3, _ => exact ⟨rfl, rfl, rfl⟩
    | 4, _ => exact ⟨rfl, rfl, rfl⟩
    | 5, _ => exact ⟨rfl, rfl, rfl⟩
    | 6, _ => exact ⟨rfl, rfl, rfl⟩
    | 7, _ => exact ⟨rfl, rfl, rfl⟩
    | 8, _ => exact ⟨rfl, rfl, rfl⟩
    | n + 9, hi => simp [typesL] at hi; omega
  · intro i' hi
    match i', hi with
    | 0, _ => exact f
    | 1, _ => exact at_fn W _ _ _ (TysAt.twos h.b8 f a)
    | 2, _ => exact at_fn W _ _ _ (TysAt.twos h.b9 a f)
    | 3, _ => exact at_con W _ _ _ (TysAt.twos h.b10 l i)
    | 4, _ => exact at_con W _ _ _ (TysAt.twos h.b11 f a)
    | 5, _ => exact at_fn W _ _ _ (TysAt.twos h.b12 l i)
    | 6, _ => exact q
    | 7, _ => exact at_fn W _ _ _ (TysAt.twos h.b13 q q)
    | 8, _ => exact at_con W _ _ _ (TysAt.ones h.b14 q)
    | n + 9, hi => simp [typesL] at hi; omega
theorem Laid.want {n : Nat} {W : World} (h : Laid n W) : ∀ k (hk : k < 9), W.cell? ⟨n + 1 + 1 + 1 + 1 + 1 + 1 + 1 + 1 + 1 + 1 + 1 + 1 + 1 + 1 + 1 + 1, k, none⟩ = some (.string (wantL[k]'hk)) := by
  intro k hk
  rw [Lib.cell_of_heap h.b16]
  match k, hk with
  | 0, _ => rfl
  | 1, _ => rfl
  | 2, _ => rfl
  | 3, _ => rfl
  | 4, _ => rfl
  | 5, _ => rfl
  | 6, _ => rfl
  | 7, _ => rfl
  | 8, _ => rfl
  | n + 9, hi => omega
end Go.Proofs.Ytlfbmbbfcijedaa
