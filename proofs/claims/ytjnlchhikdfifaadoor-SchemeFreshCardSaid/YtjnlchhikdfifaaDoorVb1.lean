/- Merged: ScOf, ScFive, FrSet, FrNum, FrRenR, FrRen, FrAll, TySize, TyRVars, TyRPlain, TyRAllQ, TyRVars2, FrClose, FrFresh, ScCloR, ScFreR, ScRenR. -/
import Derived.Test.YtjnlchhikdfifaaDoorVa2
import Derived.Test.YtjnlchhikdfifaaDoorVa5
import Derived.Test.YtjnlchhikdfifaaDoorVa3
import Derived.Test.YtjnlchhikdfifaaDoorVa4
import Derived.Shelf.Strconv.Itoa1
import Derived.Shelf.Strconv.Itoa2
import Derived.Lib.ItoaMem
import Derived.Lib.AppendIntMem
import Derived.Deep.AppendLies
import Derived.Deep.RegionHeld3
import Derived.Deep.DrawnRows
import Derived.BigRegion
/- subst.Of of a row that was made, of nothing too. -/
namespace Go.Proofs.YtjnlchhikdfifaaDoor
open Go.RowKit Go.Sort Go.Lib
attribute [local go_sem] Oper.semAt_some

theorem clone_zero (a : Addr) (c : Nat) (ha : a.spot = none) (w : World) : Calls Tryd.prog 69 #[.slice (some a) 0 c] w fun e w' => (∃ x k, e = .returned (.slice (some x) 0 k)) ∧ Below w.heap.size w w' := by
  obtain ⟨b, o, s⟩ := a
  obtain rfl : s = none := ha
  obtain ⟨i0, hi, hz0, hz1, hz2⟩ := info_parts Tryd.infoPair
  have : Calls Tryd.prog 69 _ _ _ := AnyE.slices_Clone cloneLay i0 (.agg zeroP) 4 64 hi hz0 hz1 hz2 rfl (by decide) Tryd.sizeOf82 b o 0 c [] w rfl (by unfold maxLen; omega) (by omega) (fun j u h => by simp at h) (fun u h => nomatch h)
  refine this.mono ?_
  rintro e w' ⟨v, rfl, ho, hne, hb⟩
  rcases ho.2 with ⟨rfl, _⟩ | ⟨g, cap, cur, rfl, _⟩
  · exact absurd rfl hne
  · exact ⟨⟨_, cap, rfl⟩, hb⟩
theorem of_zero (a : Addr) (c : Nat) (ha : a.spot = none) (w : World) :
    Calls Tryd.prog 48 #[.slice (some a) 0 c] w fun e w' => (∃ v l, e = .returned (.agg #[v]) ∧ SubAt v l w' ∧ Made [] l) ∧ Below w.heap.size w w' := by
  have HB := Lib.hid (fun o => (Below.refl _ w).alloc (Nat.le_refl _) o)
  have HC := Lib.hid (fun W => clone_zero a c ha W)
  go_enter Tryd.func48, Tryd.ntmps48
  go_wp2_with (go_at_call 69; fail)
  refine (HC.out _).mono ?_
  rintro e w1 ⟨⟨x, k, rfl⟩, hb1⟩
  have hz1 : w.heap.size + 1 ≤ w1.heap.size := by have := hb1.size; simpa using this
  have b1 := (hb1.block w.heap.size (by simp)).trans (alloc_new w _)
  have HB1 := Lib.hid ((HB.out _).trans (hb1.mono (by simp)))
  have Hb1 := Lib.hid b1
  clear hb1 HC b1
  go_wp2_with (go_at_call 68; fail)
  refine (gather_none (some x) k _).mono ?_
  rintro e w2 ⟨rfl, hb⟩
  have b0 := (hb.block w.heap.size (by omega)).trans Hb1.out
  have hz2 : w1.heap.size ≤ w2.heap.size := hb.size
  have HB2 := Lib.hid (HB1.out.trans (hb.mono (by omega)))
  have y0 : w2.cell? ⟨w.heap.size, 0, none⟩ = some (.slice none 0 0) := by rw [Lib.cell_of_heap b0]; rfl
  have y1 := Lib.frozen_of_heap b0 0
  have l2 := (Array.getElem?_eq_some_iff.1 b0).1
  have Hb := Lib.hid b0
  clear hb b0 HB HB1 Hb1
  go_wp2
  refine wp_loop_rounds 1 ?_
  rw [rounds_succ]
  go_wp2
  have hs : ∀ o : Obj, ((w2.setCell ⟨w.heap.size, 0, none⟩ (.slice (some x) 0 k)).alloc o).heap[w.heap.size]? = some (.cells #[.slice (some x) 0 k] 59 (0, 0)) := fun o => by
    rw [Below.heap_alloc _ _ _ (by simpa using l2)]; exact blk_set (o := 0) Hb.out (.slice (some x) 0 k)
  have hc0 : ((w2.setCell ⟨w.heap.size, 0, none⟩ (.slice (some x) 0 k)).alloc (.cells #[.slice (some x) 0 k] 59)).cell? ⟨w.heap.size, 0, none⟩ = some (.slice (some x) 0 k) := by rw [Lib.cell_of_heap (hs _)]; rfl
  exact bodyPost_ret (v := .agg #[.slice (some x) 0 k]) (by simp [results, Tryd.results48, go_sem, hc0]) rfl ⟨⟨_, [], rfl, sub_nil _ _ _ (fun h => nomatch h), gath_nil.made (Copy.refl [])⟩, (HB2.out.setCell (p := ⟨w.heap.size, 0, none⟩) (Nat.le_refl _) _).alloc (by simp; omega) _⟩
theorem of_all (g cap : Nat) (d : List PR) (w : World) (h : RowP g d w) (ht : Typ d w) (hf : FitsAll d) (hz : SizedAll d) (hl : d.length < 20) :
    Calls Tryd.prog 48 #[.slice (some ⟨g, 0, none⟩) d.length cap] w fun e w' => (∃ v l, e = .returned (.agg #[v]) ∧ SubAt v l w' ∧ Made d l) ∧ Below w.heap.size w w' := by
  by_cases h0 : d = []
  · subst h0
    exact of_zero _ cap rfl w
  · exact of_some g cap d w h ht hf hz hl h0
end Go.Proofs.YtjnlchhikdfifaaDoor
/- Schemes in memory: their five cells. -/
namespace Go.Proofs.YtjnlchhikdfifaaDoor
open Go.RowKit Go.Sort Go.Lib
attribute [local go_sem] Oper.semAt_some

def set5 (W : World) (r : Nat) (x y z u v : Value) : World := ((((W.setCell ⟨r, 0, none⟩ x).setCell ⟨r, 1, none⟩ y).setCell ⟨r, 2, none⟩ z).setCell ⟨r, 3, none⟩ u).setCell ⟨r, 4, none⟩ v
theorem cells5 {w : World} {p : Nat} {x y z u v : Value} {T : TypeId} {fz : Nat × Nat} (h : w.heap[p]? = some (.cells #[x, y, z, u, v] T fz)) : w.cell? ⟨p, 0, none⟩ = some x ∧ w.cell? ⟨p, 1, none⟩ = some y ∧ w.cell? ⟨p, 2, none⟩ = some z ∧ w.cell? ⟨p, 3, none⟩ = some u ∧ w.cell? ⟨p, 4, none⟩ = some v := by
  refine ⟨?_, ?_, ?_, ?_, ?_⟩ <;> (rw [Lib.cell_of_heap h]; rfl)
theorem set5_block {W : World} {r : Nat} {x0 y0 z0 u0 v0 : Value} {T : TypeId} (h : W.heap[r]? = some (.cells #[x0, y0, z0, u0, v0] T (0, 0))) (x y z u v : Value) : (set5 W r x y z u v).heap[r]? = some (.cells #[x, y, z, u, v] T (0, 0)) :=
  blk_set (o := 4) (blk_set (o := 3) (blk_set (o := 2) (blk_set (o := 1) (blk_set (o := 0) h x) y) z) u) v
theorem set5_other (W : World) (r : Nat) (x y z u v : Value) {k : Nat} (hk : k ≠ r) : (set5 W r x y z u v).heap[k]? = W.heap[k]? :=
  (Below.heap_setCell _ ⟨r, 4, none⟩ _ k hk).trans ((Below.heap_setCell _ ⟨r, 3, none⟩ _ k hk).trans ((Below.heap_setCell _ ⟨r, 2, none⟩ _ k hk).trans ((Below.heap_setCell _ ⟨r, 1, none⟩ _ k hk).trans (Below.heap_setCell _ ⟨r, 0, none⟩ _ k hk))))
theorem below_set5 {B : Nat} {w W : World} (h : Below B w W) {r : Nat} (hB : B ≤ r) (x y z u v : Value) : Below B w (set5 W r x y z u v) :=
  ((((h.setCell (p := ⟨r, 0, none⟩) hB x).setCell (p := ⟨r, 1, none⟩) hB y).setCell (p := ⟨r, 2, none⟩) hB z).setCell (p := ⟨r, 3, none⟩) hB u).setCell (p := ⟨r, 4, none⟩) hB v
theorem TextsAt.strs {w : World} {v : Value} {l : List ByteArray} (h : TextsAt w v l) : StrsP v l w := by
  obtain ⟨a, cap, rfl, h⟩ := h
  rcases h with rfl | ⟨g, rfl, hc, cs, fz, hg, hr⟩
  · exact .inl ⟨rfl, a, cap, rfl⟩
  · refine .inr ⟨g, 0, cap, rfl, (Array.getElem?_eq_some_iff.1 hg).1, fun i hi => ?_⟩
    rw [Nat.zero_add, Lib.cell_of_heap hg, show (cs[(⟨g, i, none⟩ : Addr).off]? : Option Value) = cs[i]? from rfl, hr i hi]
    simp [List.getD, hi]
/-- Block b holds a scheme: its variables, its context, its type. -/
def SchB (b : Nat) (xv cv : Value) (t : T) (ta : Option Addr) (tc : Nat) (V : World) : Prop := V.heap[b]? = some (.cells #[xv, cv, .int .i64 t.kind, .string t.name, .slice ta t.kids.length tc] 42 (0, 0)) ∧ TysAt V (.slice ta t.kids.length tc) t.kids
theorem SchB.below {b : Nat} {xv cv : Value} {t : T} {ta : Option Addr} {tc : Nat} {V Y : World} (h : SchB b xv cv t ta tc V) (hb : Below V.heap.size V Y) : SchB b xv cv t ta tc Y := ⟨(hb.block b (Array.getElem?_eq_some_iff.1 h.1).1).trans h.1, h.2.keep (KeepT.of_below hb)⟩
theorem SchB.lt {b : Nat} {xv cv : Value} {t : T} {ta : Option Addr} {tc : Nat} {V : World} (h : SchB b xv cv t ta tc V) : b < V.heap.size := (Array.getElem?_eq_some_iff.1 h.1).1
theorem SchB.new {xv cv : Value} {t : T} {ta : Option Addr} {tc : Nat} {V : World} (h : TysAt V (.slice ta t.kids.length tc) t.kids) : SchB V.heap.size xv cv t ta tc (V.alloc (.cells #[xv, cv, .int .i64 t.kind, .string t.name, .slice ta t.kids.length tc] 42)) := ⟨alloc_new V _, h.keep (keepT_alloc V _)⟩
/-- A block that is to hold a scheme. -/
def Sch0 (b : Nat) (V : World) : Prop := V.heap[b]? = some (.cells #[.slice none 0 0, .slice none 0 0, .int .i64 0, .string ⟨#[]⟩, .slice none 0 0] 42 (0, 0))
theorem Sch0.below {b : Nat} {V Y : World} (h : Sch0 b V) (hb : Below V.heap.size V Y) : Sch0 b Y := (hb.block b (Array.getElem?_eq_some_iff.1 h).1).trans h
/-- What rename's last statement keeps. -/
def SR (w : World) (b3 b6 b10 : Nat) (xv cv : Value) (t : T) (ta : Option Addr) (tc : Nat) (sa : Option Addr) (sc : Nat) (l : List PR) (V : World) : Prop :=
  SchB b3 xv cv t ta tc V ∧ Sch0 b6 V ∧ BoxS b10 (.slice sa l.length sc) l V ∧ Below w.heap.size w V
theorem SR.below {w : World} {b3 b6 b10 : Nat} {xv cv : Value} {t : T} {ta : Option Addr} {tc : Nat} {sa : Option Addr} {sc : Nat} {l : List PR} {V Y : World} (h : SR w b3 b6 b10 xv cv t ta tc sa sc l V) (hb : Below V.heap.size V Y) : SR w b3 b6 b10 xv cv t ta tc sa sc l Y :=
  ⟨h.1.below hb, h.2.1.below hb, h.2.2.1.below hb, h.2.2.2.trans (hb.mono h.2.2.2.size)⟩
/-- What Close's last statement keeps. -/
def SC (w : World) (b4 b6 b9 : Nat) (t : T) (ta : Option Addr) (tc : Nat) (V : World) : Prop := BoxT b4 t ta tc V ∧ Sch0 b6 V ∧ BoxS b9 (.slice none 0 0) [] V ∧ Below w.heap.size w V
theorem SC.below {w : World} {b4 b6 b9 : Nat} {t : T} {ta : Option Addr} {tc : Nat} {V Y : World} (h : SC w b4 b6 b9 t ta tc V) (hb : Below V.heap.size V Y) : SC w b4 b6 b9 t ta tc Y :=
  ⟨h.1.below hb, h.2.1.below hb, h.2.2.1.below hb, h.2.2.2.trans (hb.mono h.2.2.2.size)⟩
/-- A scheme without a context, and its variables. -/
def SF (w : World) (b1 : Nat) (xa : Option Addr) (xc : Nat) (xs : List ByteArray) (ca : Option Addr) (cc : Nat) (t : T) (ta : Option Addr) (tc : Nat) (V : World) : Prop :=
  SchB b1 (.slice xa xs.length xc) (.slice ca 0 cc) t ta tc V ∧ TextsAt V (.slice xa xs.length xc) xs ∧ Below w.heap.size w V
theorem SF.below {w : World} {b1 : Nat} {xa : Option Addr} {xc : Nat} {xs : List ByteArray} {ca : Option Addr} {cc : Nat} {t : T} {ta : Option Addr} {tc : Nat} {V Y : World} (h : SF w b1 xa xc xs ca cc t ta tc V) (hb : Below V.heap.size V Y) : SF w b1 xa xc xs ca cc t ta tc Y :=
  ⟨h.1.below hb, h.2.1.below hb, h.2.2.trans (hb.mono h.2.2.size)⟩
/-- A scheme, the variables that are named anew, and those that are free. -/
def SN (w : World) (b1 b2 : Nat) (xa : Option Addr) (xn xc : Nat) (ca : Option Addr) (cc : Nat) (t : T) (ta : Option Addr) (tc : Nat) (ba : Option Addr) (bc : Nat) (oa : Option Addr) (oc : Nat) (bs os : List ByteArray) (V : World) : Prop :=
  SchB b1 (.slice xa xn xc) (.slice ca 0 cc) t ta tc V ∧ Sch0 b2 V ∧ (TextsAt V (.slice ba bs.length bc) bs ∧ TextsAt V (.slice oa os.length oc) os) ∧ Below w.heap.size w V
theorem SN.below {w : World} {b1 b2 : Nat} {xa : Option Addr} {xn xc : Nat} {ca : Option Addr} {cc : Nat} {t : T} {ta : Option Addr} {tc : Nat} {ba : Option Addr} {bc : Nat} {oa : Option Addr} {oc : Nat} {bs os : List ByteArray} {V Y : World} (h : SN w b1 b2 xa xn xc ca cc t ta tc ba bc oa oc bs os V) (hb : Below V.heap.size V Y) : SN w b1 b2 xa xn xc ca cc t ta tc ba bc oa oc bs os Y :=
  ⟨h.1.below hb, h.2.1.below hb, ⟨h.2.2.1.1.below hb, h.2.2.1.2.below hb⟩, h.2.2.2.trans (hb.mono h.2.2.2.size)⟩
end Go.Proofs.YtjnlchhikdfifaaDoor
/- Schemes with a context. -/
namespace Go.Proofs.YtjnlchhikdfifaaDoor
open Go.RowKit Go.Sort Go.Lib
attribute [local go_sem] Oper.semAt_some

/-- What rename's last statement keeps, with a context. -/
def SRc (w : World) (b3 b6 b10 : Nat) (xv : Value) (xa : Option Addr) (xc : Nat) (lc : List Pr) (t : T) (ta : Option Addr) (tc : Nat) (sa : Option Addr) (sc : Nat) (l : List PR) (V : World) : Prop :=
  SR w b3 b6 b10 xv (.slice xa lc.length xc) t ta tc sa sc l V ∧ PrsAt V (.slice xa lc.length xc) lc
theorem SRc.below {w : World} {b3 b6 b10 : Nat} {xv : Value} {xa : Option Addr} {xc : Nat} {lc : List Pr} {t : T} {ta : Option Addr} {tc : Nat} {sa : Option Addr} {sc : Nat} {l : List PR} {V Y : World} (h : SRc w b3 b6 b10 xv xa xc lc t ta tc sa sc l V) (hb : Below V.heap.size V Y) : SRc w b3 b6 b10 xv xa xc lc t ta tc sa sc l Y :=
  ⟨h.1.below hb, h.2.keep (KeepT.of_below hb) (KeepP.of_below hb)⟩
end Go.Proofs.YtjnlchhikdfifaaDoor
/- strconv.FormatUint at base 10. -/
namespace Go.Proofs.YtjnlchhikdfifaaDoor
open Go.Shelf Go.RowKit Go.Sort Go.Lib
attribute [local go_sem] Oper.semAt_some

def numRen : Go.Shelf.Ren := ⟨fun | 129 => 61 | 283 => 79 | 284 => 80 | 285 => 81 | 317 => 90 | 318 => 91 | n => n,
  fun | 0 => 0 | 3 => 3 | 4 => 4 | 5 => 5 | 9 => 9 | 37 => 114 | 46 => 77 | 51 => 94 | 53 => 81 | 212 => 127 | n => n, fun | 17 => 0 | n => n⟩
theorem lay283 : Lays.n283 Tryd.prog numRen :=
  {
    mixed := by kernel_rfl
    f283 := by kernel_rfl
    t3 := by kernel_rfl
    a3 := fun _ => by kernel_rfl
    z3 := fun _ => by kernel_rfl
    v3 := fun _ => by kernel_rfl
    t4 := by kernel_rfl
    a4 := fun _ => by kernel_rfl
    z4 := fun _ => by kernel_rfl
    v4 := fun _ => by kernel_rfl
    t9 := by kernel_rfl
    a9 := fun _ => by kernel_rfl
    z9 := fun _ => by kernel_rfl
    v9 := fun _ => by kernel_rfl }
theorem lay285 : Lays.n285 Tryd.prog numRen :=
  {
    mixed := by kernel_rfl
    f285 := by kernel_rfl
    t0 := by kernel_rfl
    a0 := fun _ => by kernel_rfl
    z0 := fun _ => by kernel_rfl
    v0 := fun _ => by kernel_rfl
    t3 := by kernel_rfl
    a3 := fun _ => by kernel_rfl
    z3 := fun _ => by kernel_rfl
    v3 := fun _ => by kernel_rfl
    t4 := by kernel_rfl
    a4 := fun _ => by kernel_rfl
    z4 := fun _ => by kernel_rfl
    v4 := fun _ => by kernel_rfl
    t5 := by kernel_rfl
    a5 := fun _ => by kernel_rfl
    z5 := fun _ => by kernel_rfl
    v5 := fun _ => by kernel_rfl
    t9 := by kernel_rfl
    a9 := fun _ => by kernel_rfl
    z9 := fun _ => by kernel_rfl
    v9 := fun _ => by kernel_rfl
    t37 := by kernel_rfl
    a37 := fun _ => by kernel_rfl
    z37 := fun _ => by kernel_rfl
    v37 := fun _ => by kernel_rfl
    t51 := by kernel_rfl
    a51 := fun _ => by kernel_rfl
    z51 := fun _ => by kernel_rfl
    v51 := fun _ => by kernel_rfl
    t53 := by kernel_rfl
    a53 := fun _ => by kernel_rfl
    z53 := fun _ => by kernel_rfl
    v53 := fun _ => by kernel_rfl }
theorem lay284 : LaysM.n284 Tryd.prog numRen :=
  {
    mixed := by kernel_rfl
    f129 := by kernel_rfl
    f284 := by kernel_rfl
    f317 := by kernel_rfl
    f318 := by kernel_rfl
    t0 := by kernel_rfl
    a0 := fun _ => by kernel_rfl
    z0 := fun _ => by kernel_rfl
    v0 := fun _ => by kernel_rfl
    t3 := by kernel_rfl
    a3 := fun _ => by kernel_rfl
    z3 := fun _ => by kernel_rfl
    v3 := fun _ => by kernel_rfl
    t4 := by kernel_rfl
    a4 := fun _ => by kernel_rfl
    z4 := fun _ => by kernel_rfl
    v4 := fun _ => by kernel_rfl
    t5 := by kernel_rfl
    a5 := fun _ => by kernel_rfl
    z5 := fun _ => by kernel_rfl
    v5 := fun _ => by kernel_rfl
    t9 := by kernel_rfl
    a9 := fun _ => by kernel_rfl
    z9 := fun _ => by kernel_rfl
    v9 := fun _ => by kernel_rfl
    t46 := by kernel_rfl
    a46 := fun _ => by kernel_rfl
    z46 := fun _ => by kernel_rfl
    v46 := fun _ => by kernel_rfl
    t53 := by kernel_rfl
    a53 := fun _ => by kernel_rfl
    z53 := fun _ => by kernel_rfl
    v53 := fun _ => by kernel_rfl
    t212 := by kernel_rfl
    a212 := fun _ => by kernel_rfl
    z212 := fun _ => by kernel_rfl
    v212 := fun _ => by kernel_rfl
    g17 := by kernel_rfl
    i0 := by kernel_rfl
    i3 := by kernel_rfl
    i4 := by kernel_rfl
    i5 := by kernel_rfl
    i9 := by kernel_rfl
    i46 := by kernel_rfl
    i53 := by kernel_rfl
    i212 := by kernel_rfl
    m17 := by kernel_rfl }
theorem small_num (i : Nat) (hi : i < 100) (w : World) : Calls Tryd.prog 79 #[.int .i64 i] w fun e w' => e = .returned (.string ⟨(Lib.decDigits i).toArray⟩) ∧ w' = w := Any.internal_strconv_small lay283 i hi w
theorem digits_num (u : Nat) (h1 : 1 ≤ u) (h2 : u < 18446744073709551616) (w : World) (htab : Lib.TabIs Tryd.prog w "internal/strconv.uint64pow10" .u64 Lib.pow10Tab) :
    Calls Tryd.prog 80 #[.int .u64 u] w fun e w' => e = .returned (.int .i64 (Lib.nDigits u)) ∧ w' = w := Any.internal_strconv_numDigits lay284 u h1 h2 w htab
theorem base_num (blk off cap : Nat) (u : Nat) (d : Array UInt8) (w : World) (hH : Holds (fun (b : UInt8) => Value.int .u8 (b.toNat : Int)) w blk off d) (hu : u < 10 ^ d.size) (hu64 : u < 18446744073709551616) (hsz : d.size < 4611686018427387904) :
    Calls Tryd.prog 81 #[.slice (some ⟨blk, off, none⟩) d.size cap, .int .u64 u] w fun e w' =>
      e = .returned (.tuple #[]) ∧ ∃ (n v' : Nat) (dk : Array UInt8), w' = (putRow (fun (b : UInt8) => Value.int .u8 (b.toNat : Int)) w blk off dk).drewN n ∧ FmtInv d.size u 0 v' dk := Any.internal_strconv_formatBase10 lay285 blk off cap u d w hH hu hu64 hsz
/-- FormatUint, of any number, in decimal. -/
theorem funum_any (u : Nat) (hu64 : u < 18446744073709551616) (w : World) (htab : Lib.TabIs Tryd.prog w "internal/strconv.uint64pow10" .u64 Lib.pow10Tab) :
    Calls Tryd.prog 67 #[.int .u64 u, .int .i64 10] w fun e w' => e = .returned (.string ⟨(Lib.decDigits u).toArray⟩) ∧ Below w.heap.size w w' := by
  by_cases hi : u < 100
  · have hw : IntKind.i64.wrap (u : Int) = (u : Int) := by rw [IntKind.wrap_i64]; omega
    have hiI : (u : Int) < 100 := by omega
    go_enter Tryd.func67, Tryd.ntmps67
    go_wp2_with (go_at_call 79; refine (small_num u hi _).mono ?_; rintro e w' ⟨rfl, rfl⟩)
    go_ret
    exact ⟨rfl, Below.refl _ _⟩
  · have hiI : ¬ ((u : Int) < 100) := by omega
    have hu1 : 1 ≤ u := by omega
    have hnd20 : Lib.nDigits u ≤ 20 := by have := Lib.numDigits_eq u hu1 hu64; split at this <;> omega
    have hal : Tryd.prog.arrayLen 112 = 24 := by kernel_rfl
    have hsl1 : ∀ W, (Instr.sliceAt 112 (.pointer (some ⟨w.heap.size, 0, none⟩)) none (some (.int .i64 (Lib.nDigits u : Int))) none).run Tryd.prog W = .ok (.slice (some ⟨w.heap.size, 0, none⟩) (Lib.nDigits u) 24) W := fun W => by
      rw [run_sliceAt_array_h W 112 ⟨w.heap.size, 0, none⟩ (by simp [Program.arrayLen, Program.elem, Tryd.underlying112]) .i64 (Lib.nDigits u : Int) (by omega) (by rw [hal]; omega)]
      go_simp
    have hH0 := Lib.holds_zero0 w 112 (Lib.nDigits u) (by omega)
    have hfmt := base_num w.heap.size 0 24 u (Array.replicate (Lib.nDigits u) 0) (w.alloc (.cells Lib.zeros24 112)) hH0 (by rw [Array.size_replicate]; exact Lib.lt_pow_nDigits u) hu64 (by rw [Array.size_replicate]; omega)
    rw [Array.size_replicate] at hfmt
    have HH0 := Lib.hid hH0
    have HF := Lib.hid hfmt
    have HTab := Lib.hid htab
    clear hH0 hal hfmt htab
    go_enter Tryd.func67, Tryd.ntmps67
    go_wp2_with (go_at_call 80; refine (digits_num u hu1 hu64 _ (Lib.tabIs_alloc HTab.out _)).mono ?_; rintro e w' ⟨rfl, rfl⟩)
    go_at_call 81
    refine HF.out.mono ?_
    rintro e w' ⟨rfl, k, v', dk, rfl, hF⟩
    have hcv : (convert 114 9 (.slice (some ⟨w.heap.size, 0, none⟩) (Lib.nDigits u) 24)).run Tryd.prog ((putRow (fun (b : UInt8) => Value.int .u8 (b.toNat : Int)) (w.alloc (.cells Lib.zeros24 112)) w.heap.size 0 dk).drewN k) = .ok (.string ⟨(Lib.decDigits u).toArray⟩) ((putRow (fun (b : UInt8) => Value.int .u8 (b.toNat : Int)) (w.alloc (.cells Lib.zeros24 112)) w.heap.size 0 dk).drewN k) := by
      have h := run_convert_bytes_back (P := Tryd.prog) ((putRow (fun (b : UInt8) => Value.int .u8 (b.toNat : Int)) (w.alloc (.cells Lib.zeros24 112)) w.heap.size 0 dk).drewN k) 114 9 5 ⟨w.heap.size, 0, none⟩ 24 (Lib.decDigits u) (by kernel_rfl) (by kernel_rfl) (by kernel_rfl) (fun j hj => by
        rw [Lib.row_is_numeral hF j hj, Lib.add_plain, World.cell?_drewN]
        exact cell?_putRow (fun (b : UInt8) => Value.int .u8 (b.toNat : Int)) _ w.heap.size 0 _ dk HH0.out (by rw [hF.size, Array.size_replicate]) j (by rw [hF.size]; rw [Lib.decDigits_length] at hj; exact hj))
      rw [Lib.decDigits_length] at h
      exact h
    go_wp2
    go_ret
    refine ⟨rfl, ?_⟩
    rw [alloc_eq_grow]
    obtain ⟨os', _, e⟩ := putRow_grow_new (fun (b : UInt8) => Value.int .u8 (b.toNat : Int)) w #[(.cells Lib.zeros24 112)] w.heap.size 0 dk (Nat.le_refl _)
    rw [e]
    exact Lib.below_grow w.heap.size w (Nat.le_refl _) k os'
end Go.Proofs.YtjnlchhikdfifaaDoor
/- scheme.rename with a context: its last statement, a region of 11 operations that draws its order, by an invariant. (Made by a program.) -/
namespace Go.Proofs.YtjnlchhikdfifaaDoor
open Go.RowKit Go.Sort Go.Lib
attribute [local go_sem] Oper.semAt_some

noncomputable def frnOps : Array Oper := regionIn 8 (Tryd.f34.body.getD .skip)
def frnFr (b : Nat → Value) (d : List Deferred) (x : Nat → Value) : Act := { tmps := #[b 0, b 1, b 2, b 3, b 4, b 5, b 6, b 7, b 8, b 9, b 10, b 11, b 12, b 13, b 14, b 15, b 16, b 17, b 18, b 19, b 20, b 21, b 22, b 23, b 24, b 25, b 26, b 27, b 28, b 29, b 30, b 31, b 32, b 33, x 0, x 1, x 2, x 3, x 4, x 5, x 6, x 7, x 8, x 9], defers := d }

def frnVals (b3 : Nat) (xa ta sa : Option Addr) (xc tc sc : Nat) (lc : List Pr) (t : T) (l : List PR) (ga : Option Addr) (gn gc : Nat) (i : Nat) (v : Value) (V : World) : Prop :=
  match i with
  | 0 => v = .slice ga gn gc
  | 1 => v = .agg #[.slice sa l.length sc]
  | 2 => v = .pointer (some ⟨b3, 1, none⟩)
  | 3 => v = .slice xa lc.length xc
  | 4 => ∃ zp zd, v = .slice zp lc.length zd ∧ PrsAt V (.slice zp lc.length zd) (appP l lc)
  | 5 => v = .agg #[.slice sa l.length sc]
  | 6 => v = .pointer (some ⟨b3, 2, none⟩)
  | 7 => v = .agg #[.int .i64 (t).kind, .string (t).name, .slice ta (t).kids.length tc]
  | 8 => ∃ za zc, v = .agg #[.int .i64 (app l t).kind, .string (app l t).name, .slice za (app l t).kids.length zc] ∧ TysAt V (.slice za (app l t).kids.length zc) (app l t).kids
  | 9 => ∃ zp zd za zc, v = .agg #[.slice ga gn gc, .slice zp lc.length zd, .int .i64 (app l t).kind, .string (app l t).name, .slice za (app l t).kids.length zc] ∧ PrsAt V (.slice zp lc.length zd) (appP l lc) ∧ TysAt V (.slice za (app l t).kids.length zc) (app l t).kids
  | _ => True

theorem frnVals_keep {b3 : Nat} {xa ta sa : Option Addr} {xc tc sc : Nat} {lc : List Pr} {t : T} {l : List PR} {ga : Option Addr} {gn gc : Nat} (i : Nat) (v : Value) (V Y : World) (h : frnVals b3 xa ta sa xc tc sc lc t l ga gn gc i v V) (hb : Below V.heap.size V Y) : frnVals b3 xa ta sa xc tc sc lc t l ga gn gc i v Y := by
  unfold frnVals at *
  split at h <;> first
    | exact h
    | (obtain ⟨zp, zd, e, h⟩ := h; exact ⟨zp, zd, e, h.keep (KeepT.of_below hb) (KeepP.of_below hb)⟩)
    | (obtain ⟨za, zc, e, h⟩ := h; exact ⟨za, zc, e, h.keep (KeepT.of_below hb)⟩)
    | (obtain ⟨zp, zd, za, zc, e, h⟩ := h; exact ⟨zp, zd, za, zc, e, ⟨h.1.keep (KeepT.of_below hb) (KeepP.of_below hb), h.2.keep (KeepT.of_below hb)⟩⟩)

theorem frn_size : frnOps.size = 11 := by kernel_rfl
theorem frn_cov : covered frnOps 10 = true := by kernel_rfl
set_option linter.unusedSimpArgs false in
set_option maxRecDepth 100000 in
set_option maxHeartbeats 8000000 in
theorem frn_region {w : World} {b3 b6 b10 : Nat} {xv : Value} {xa ta sa ga : Option Addr} {xc tc sc gn gc : Nat} {lc : List Pr} {t : T} {l : List PR} {b : Nat → Value} {d : List Deferred}
    (h2 : b 2 = .slice ga gn gc) (h3 : b 3 = .pointer (some ⟨b3, 0, none⟩)) (h6 : b 6 = .pointer (some ⟨b6, 0, none⟩)) (h10 : b 10 = .pointer (some ⟨b10, 0, none⟩))
    (HC4 : ∀ V, SRc w b3 b6 b10 xv xa xc lc t ta tc sa sc l V → Calls Tryd.prog 23 #[.agg #[.slice sa l.length sc], .slice xa lc.length xc] V fun e Y => (∃ zp zd, e = .returned (.slice zp lc.length zd) ∧ PrsAt Y (.slice zp lc.length zd) (appP l lc)) ∧ Below V.heap.size V Y)
    (HC8 : ∀ V, SRc w b3 b6 b10 xv xa xc lc t ta tc sa sc l V → Calls Tryd.prog 40 #[.agg #[.slice sa l.length sc], .agg #[.int .i64 (t).kind, .string (t).name, .slice ta (t).kids.length tc]] V fun e Y => (∃ za zc, e = .returned (.agg #[.int .i64 (app l t).kind, .string (app l t).name, .slice za (app l t).kids.length zc]) ∧ TysAt Y (.slice za (app l t).kids.length zc) (app l t).kids) ∧ Below V.heap.size V Y)
    {Q : Exit → Act → World → Prop} {ops : Array Oper} (hops : ops = frnOps) (x0 : Nat → Value) (X : World) (hS : SRc w b3 b6 b10 xv xa xc lc t ta tc sa sc l X.drew)
    (hfin : ∀ (x : Nat → Value) V zp zd za zc, SRc w b3 b6 b10 xv xa xc lc t ta tc sa sc l V → PrsAt V (.slice zp lc.length zd) (appP l lc) → TysAt V (.slice za (app l t).kids.length zc) (app l t).kids → Q .normal (frnFr b d x) (set5 V b6 (.slice ga gn gc) (.slice zp lc.length zd) (.int .i64 (app l t).kind) (.string (app l t).name) (.slice za (app l t).kids.length zc))) : (Code.region 8 ops true).wp Tryd.prog Q (frnFr b d x0) X := by
  have HC := Lib.hid (And.intro HC4 HC8)
  clear HC4 HC8
  have hszo : ops.size = 10 + 1 := by rw [hops]; exact frn_size
  have hcovo : covered ops 10 = true := by rw [hops]; exact frn_cov
  refine region_last (frnFr b d) (fun V => SRc w b3 b6 b10 xv xa xc lc t ta tc sa sc l V) (fun V Y => Below V.heap.size V Y) (frnVals b3 xa ta sa xc tc sc lc t l ga gn gc) x0 10 (by kernel_rfl) rfl hS hszo hcovo (fun V Y h hb => h.below hb) (fun i v V Y _ h hb => frnVals_keep i v V Y h hb) ?_
  have HFIN := Lib.hid hfin
  clear hfin hS hszo hcovo
  obtain ⟨gl, hgl⟩ : ∃ qq, LastAt Tryd.prog (frnFr b d) (fun V => SRc w b3 b6 b10 xv xa xc lc t ta tc sa sc l V) (frnVals b3 xa ta sa xc tc sc lc t l ga gn gc) ops Q 10 = qq := ⟨_, rfl⟩
  rw [hgl]
  obtain ⟨f, hf⟩ : ∃ qq, StepAt Tryd.prog (frnFr b d) (fun V => SRc w b3 b6 b10 xv xa xc lc t ta tc sa sc l V) (fun V Y => Below V.heap.size V Y) (frnVals b3 xa ta sa xc tc sc lc t l ga gn gc) ops Q = qq := ⟨_, rfl⟩
  rw [hf, hops]
  simp only [frnOps, Tryd.f34, regionIn, Option.getD_some, Nat.reduceBEq, Bool.false_eq_true, if_false, if_true, beq_self_eq_true, Array.append_empty, Array.empty_append, List.append_eq, List.cons_append, List.nil_append, AllBut, Nat.reduceAdd, Nat.zero_add]
  -- 0: slot 34 := Op.move t2
  refine And.intro ?_ ?_
  · clear HFIN hgl
    rw [← hf]; clear hf
    refine ⟨by decide +kernel, fun x v => by kernel_rfl, fun x V hV hdep K hK => ?_⟩
    clear hdep
    refine run_bare (by kernel_rfl) ?_
    unfold frnFr
    go_simp
    refine kfit (hK _ _ (Below.refl _ V) rfl) ?_
    first | (simp only [frnFr, Act.put, List.setIfInBounds_toArray, List.set_cons_zero, List.set_cons_succ, h2, h3, h6, h10]; done) | (simp only [frnFr, Act.put, List.setIfInBounds_toArray, List.set_cons_zero, List.set_cons_succ, h2, h3, h6, h10]; rfl)
  -- 1: slot 35 := Op.load 59 t10
  refine And.intro ?_ ?_
  · clear HFIN hgl
    rw [← hf]; clear hf
    refine ⟨by decide +kernel, fun x v => by kernel_rfl, fun x V hV hdep K hK => ?_⟩
    clear hdep
    refine run_bare (by kernel_rfl) ?_
    unfold frnFr
    obtain ⟨y0, y1, y2, y3, y4⟩ := cells5 hV.1.1.1; have y5 := hV.1.2.2.1.cell
    go_simp
    refine kfit (hK _ _ (Below.refl _ V) rfl) ?_
    first | (simp only [frnFr, Act.put, List.setIfInBounds_toArray, List.set_cons_zero, List.set_cons_succ, h2, h3, h6, h10]; done) | (simp only [frnFr, Act.put, List.setIfInBounds_toArray, List.set_cons_zero, List.set_cons_succ, h2, h3, h6, h10]; rfl)
  -- 2: slot 36 := Op.fieldAddr 42 t3 1
  refine And.intro ?_ ?_
  · clear HFIN hgl
    rw [← hf]; clear hf
    refine ⟨by decide +kernel, fun x v => by kernel_rfl, fun x V hV hdep K hK => ?_⟩
    clear hdep
    refine run_bare (by kernel_rfl) ?_
    unfold frnFr
    go_simp
    refine kfit (hK _ _ (Below.refl _ V) rfl) ?_
    first | (simp only [frnFr, Act.put, List.setIfInBounds_toArray, List.set_cons_zero, List.set_cons_succ, h2, h3, h6, h10]; done) | (simp only [frnFr, Act.put, List.setIfInBounds_toArray, List.set_cons_zero, List.set_cons_succ, h2, h3, h6, h10]; rfl)
  -- 3: slot 37 := Op.load 24 t36
  refine And.intro ?_ ?_
  · clear HFIN hgl
    rw [← hf]; clear hf
    refine ⟨by decide +kernel, fun x v => by kernel_rfl, fun x V hV hdep K hK => ?_⟩
    have e2 : x 2 = .pointer (some ⟨b3, 1, none⟩) := depOf hdep 2 (by decide +kernel)
    clear hdep
    refine run_bare (by kernel_rfl) ?_
    unfold frnFr
    obtain ⟨y0, y1, y2, y3, y4⟩ := cells5 hV.1.1.1; have y5 := hV.1.2.2.1.cell
    go_simp
    refine kfit (hK _ _ (Below.refl _ V) rfl) ?_
    first | (simp only [frnFr, Act.put, List.setIfInBounds_toArray, List.set_cons_zero, List.set_cons_succ, h2, h3, h6, h10, e2]; done) | (simp only [frnFr, Act.put, List.setIfInBounds_toArray, List.set_cons_zero, List.set_cons_succ, h2, h3, h6, h10, e2]; rfl)
  -- 4: slot 38 := Op.call { value (Operand.func 23), args := #[t35, t37], argT
  refine And.intro ?_ ?_
  · clear HFIN hgl
    rw [← hf]; clear hf
    refine ⟨by decide +kernel, fun x v => by kernel_rfl, fun x V hV hdep K hK => ?_⟩
    have e1 : x 1 = .agg #[.slice sa l.length sc] := depOf hdep 1 (by decide +kernel)
    have e3 : x 3 = .slice xa lc.length xc := depOf hdep 3 (by decide +kernel)
    clear hdep
    refine run_bare (by kernel_rfl) ?_
    unfold frnFr
    obtain ⟨HC4, HC8⟩ := HC.out
    clear HC8
    have H := HC4 V hV
    replace H := Lib.hid H; clear HC4
    go_simp
    go_at_call 23
    refine H.out.mono ?_
    rintro e Y ⟨⟨zp, zd, rfl, hq⟩, hb⟩; refine kfit (hK _ _ hb ⟨zp, zd, rfl, hq⟩) ?_
    first | (simp only [frnFr, Act.put, List.setIfInBounds_toArray, List.set_cons_zero, List.set_cons_succ, h2, h3, h6, h10, e1, e3]; done) | (simp only [frnFr, Act.put, List.setIfInBounds_toArray, List.set_cons_zero, List.set_cons_succ, h2, h3, h6, h10, e1, e3]; rfl)
  -- 5: slot 39 := Op.load 59 t10
  refine And.intro ?_ ?_
  · clear HFIN hgl
    rw [← hf]; clear hf
    refine ⟨by decide +kernel, fun x v => by kernel_rfl, fun x V hV hdep K hK => ?_⟩
    clear hdep
    refine run_bare (by kernel_rfl) ?_
    unfold frnFr
    obtain ⟨y0, y1, y2, y3, y4⟩ := cells5 hV.1.1.1; have y5 := hV.1.2.2.1.cell
    go_simp
    refine kfit (hK _ _ (Below.refl _ V) rfl) ?_
    first | (simp only [frnFr, Act.put, List.setIfInBounds_toArray, List.set_cons_zero, List.set_cons_succ, h2, h3, h6, h10]; done) | (simp only [frnFr, Act.put, List.setIfInBounds_toArray, List.set_cons_zero, List.set_cons_succ, h2, h3, h6, h10]; rfl)
  -- 6: slot 40 := Op.fieldAddr 42 t3 2
  refine And.intro ?_ ?_
  · clear HFIN hgl
    rw [← hf]; clear hf
    refine ⟨by decide +kernel, fun x v => by kernel_rfl, fun x V hV hdep K hK => ?_⟩
    clear hdep
    refine run_bare (by kernel_rfl) ?_
    unfold frnFr
    go_simp
    refine kfit (hK _ _ (Below.refl _ V) rfl) ?_
    first | (simp only [frnFr, Act.put, List.setIfInBounds_toArray, List.set_cons_zero, List.set_cons_succ, h2, h3, h6, h10]; done) | (simp only [frnFr, Act.put, List.setIfInBounds_toArray, List.set_cons_zero, List.set_cons_succ, h2, h3, h6, h10]; rfl)
  -- 7: slot 41 := Op.load 33 t40
  refine And.intro ?_ ?_
  · clear HFIN hgl
    rw [← hf]; clear hf
    refine ⟨by decide +kernel, fun x v => by kernel_rfl, fun x V hV hdep K hK => ?_⟩
    have e6 : x 6 = .pointer (some ⟨b3, 2, none⟩) := depOf hdep 6 (by decide +kernel)
    clear hdep
    refine run_bare (by kernel_rfl) ?_
    unfold frnFr
    obtain ⟨y0, y1, y2, y3, y4⟩ := cells5 hV.1.1.1; have y5 := hV.1.2.2.1.cell
    go_simp
    refine kfit (hK _ _ (Below.refl _ V) rfl) ?_
    first | (simp only [frnFr, Act.put, List.setIfInBounds_toArray, List.set_cons_zero, List.set_cons_succ, h2, h3, h6, h10, e6]; done) | (simp only [frnFr, Act.put, List.setIfInBounds_toArray, List.set_cons_zero, List.set_cons_succ, h2, h3, h6, h10, e6]; rfl)
  -- 8: slot 42 := Op.call { value (Operand.func 40), args := #[t39, t41], argT
  refine And.intro ?_ ?_
  · clear HFIN hgl
    rw [← hf]; clear hf
    refine ⟨by decide +kernel, fun x v => by kernel_rfl, fun x V hV hdep K hK => ?_⟩
    have e5 : x 5 = .agg #[.slice sa l.length sc] := depOf hdep 5 (by decide +kernel)
    have e7 : x 7 = .agg #[.int .i64 (t).kind, .string (t).name, .slice ta (t).kids.length tc] := depOf hdep 7 (by decide +kernel)
    clear hdep
    refine run_bare (by kernel_rfl) ?_
    unfold frnFr
    obtain ⟨HC4, HC8⟩ := HC.out
    clear HC4
    have H := HC8 V hV
    replace H := Lib.hid H; clear HC8
    go_simp
    go_at_call 40
    refine H.out.mono ?_
    rintro e Y ⟨⟨za, zc, rfl, hq⟩, hb⟩; refine kfit (hK _ _ hb ⟨za, zc, rfl, hq⟩) ?_
    first | (simp only [frnFr, Act.put, List.setIfInBounds_toArray, List.set_cons_zero, List.set_cons_succ, h2, h3, h6, h10, e5, e7]; done) | (simp only [frnFr, Act.put, List.setIfInBounds_toArray, List.set_cons_zero, List.set_cons_succ, h2, h3, h6, h10, e5, e7]; rfl)
  -- 9: slot 43 := Op.build 42 #[(0, t34), (1, t38), (2, t42)]
  refine And.intro ?_ ?_
  · clear HFIN hgl
    rw [← hf]; clear hf
    refine ⟨by decide +kernel, fun x v => by kernel_rfl, fun x V hV hdep K hK => ?_⟩
    have e0 : x 0 = .slice ga gn gc := depOf hdep 0 (by decide +kernel)
    obtain ⟨zp4, zd4, e4, d4⟩ : ∃ zp4 zd4, x 4 = .slice zp4 lc.length zd4 ∧ PrsAt V (.slice zp4 lc.length zd4) (appP l lc) := depOf hdep 4 (by decide +kernel)
    obtain ⟨za8, zc8, e8, d8⟩ : ∃ za8 zc8, x 8 = .agg #[.int .i64 (app l t).kind, .string (app l t).name, .slice za8 (app l t).kids.length zc8] ∧ TysAt V (.slice za8 (app l t).kids.length zc8) (app l t).kids := depOf hdep 8 (by decide +kernel)
    clear hdep
    refine run_bare (by kernel_rfl) ?_
    unfold frnFr
    go_simp
    refine kfit (hK _ _ (Below.refl _ V) ⟨zp4, zd4, za8, zc8, rfl, d4, d8⟩) ?_
    first | (simp only [frnFr, Act.put, List.setIfInBounds_toArray, List.set_cons_zero, List.set_cons_succ, h2, h3, h6, h10, e0, e4, e8]; done) | (simp only [frnFr, Act.put, List.setIfInBounds_toArray, List.set_cons_zero, List.set_cons_succ, h2, h3, h6, h10, e0, e4, e8]; rfl)
  -- 10: slot none := Op.store 42 t6 t43
  · clear HC
    rw [← hgl]; clear hgl
    refine ⟨by decide +kernel, fun x V hV hall K hK => ?_⟩
    obtain ⟨zp, zd, za, zc, e9, d4, d9⟩ : ∃ (zp : Option Addr) (zd : Nat) (za : Option Addr) (zc : Nat), x 9 = .agg #[.slice ga gn gc, .slice zp lc.length zd, .int .i64 (app l t).kind, .string (app l t).name, .slice za (app l t).kids.length zc] ∧ PrsAt V (.slice zp lc.length zd) (appP l lc) ∧ TysAt V (.slice za (app l t).kids.length zc) (app l t).kids := hall 9 (by decide)
    clear hall
    refine run_bare (by kernel_rfl) ?_
    unfold frnFr
    obtain ⟨v0, v1, v2, v3, v4⟩ := cells5 hV.1.2.1
    have f0 := Lib.frozen_of_heap hV.1.2.1 0; have f1 := Lib.frozen_of_heap hV.1.2.1 1; have f2 := Lib.frozen_of_heap hV.1.2.1 2; have f3 := Lib.frozen_of_heap hV.1.2.1 3; have f4 := Lib.frozen_of_heap hV.1.2.1 4
    have H := Lib.hid (HFIN.out x V zp zd za zc hV d4 d9)
    clear HFIN hV d4 d9
    go_simp
    refine kfit (hK undef _ H.out) ?_
    first | (simp only [frnFr, Act.put, List.setIfInBounds_toArray, List.set_cons_zero, List.set_cons_succ, h2, h3, h6, h10, e9]; done) | (simp only [frnFr, Act.put, List.setIfInBounds_toArray, List.set_cons_zero, List.set_cons_succ, h2, h3, h6, h10, e9]; rfl)
theorem frn_here {w : World} {b3 b6 b10 : Nat} {xv : Value} {xa ta sa ga : Option Addr} {xc tc sc gn gc : Nat} {lc : List Pr} {t : T} {l : List PR}
    (HC4 : ∀ V, SRc w b3 b6 b10 xv xa xc lc t ta tc sa sc l V → Calls Tryd.prog 23 #[.agg #[.slice sa l.length sc], .slice xa lc.length xc] V fun e Y => (∃ zp zd, e = .returned (.slice zp lc.length zd) ∧ PrsAt Y (.slice zp lc.length zd) (appP l lc)) ∧ Below V.heap.size V Y)
    (HC8 : ∀ V, SRc w b3 b6 b10 xv xa xc lc t ta tc sa sc l V → Calls Tryd.prog 40 #[.agg #[.slice sa l.length sc], .agg #[.int .i64 (t).kind, .string (t).name, .slice ta (t).kids.length tc]] V fun e Y => (∃ za zc, e = .returned (.agg #[.int .i64 (app l t).kind, .string (app l t).name, .slice za (app l t).kids.length zc]) ∧ TysAt Y (.slice za (app l t).kids.length zc) (app l t).kids) ∧ Below V.heap.size V Y)
    {Q : Exit → Act → World → Prop} {ops : Array Oper} {a : Act} (X : World) (hops : ops = frnOps)
    (h2 : a.tmps.getD 2 undef = .slice ga gn gc) (h3 : a.tmps.getD 3 undef = .pointer (some ⟨b3, 0, none⟩)) (h6 : a.tmps.getD 6 undef = .pointer (some ⟨b6, 0, none⟩)) (h10 : a.tmps.getD 10 undef = .pointer (some ⟨b10, 0, none⟩))
    (ha : a = frnFr (fun j => a.tmps.getD j undef) a.defers (fun i => a.tmps.getD (34 + i) undef)) (hS : SRc w b3 b6 b10 xv xa xc lc t ta tc sa sc l X.drew)
    (hfin : ∀ (x : Nat → Value) V zp zd za zc, SRc w b3 b6 b10 xv xa xc lc t ta tc sa sc l V → PrsAt V (.slice zp lc.length zd) (appP l lc) → TysAt V (.slice za (app l t).kids.length zc) (app l t).kids → Q .normal (frnFr (fun j => a.tmps.getD j undef) a.defers x) (set5 V b6 (.slice ga gn gc) (.slice zp lc.length zd) (.int .i64 (app l t).kind) (.string (app l t).name) (.slice za (app l t).kids.length zc))) : (Code.region 8 ops true).wp Tryd.prog Q a X :=
  cast (congrArg (fun z => (Code.region 8 ops true).wp Tryd.prog Q z X) ha.symm) (frn_region (b := fun j => a.tmps.getD j undef) (d := a.defers) h2 h3 h6 h10 HC4 HC8 hops _ X hS hfin)
end Go.Proofs.YtjnlchhikdfifaaDoor
/- scheme.rename: names in variables' places, in a scheme with a context. -/
namespace Go.Proofs.YtjnlchhikdfifaaDoor
open Go.RowKit Go.Sort Go.Lib
attribute [local go_sem] Oper.semAt_some

set_option maxRecDepth 100000 in
set_option maxHeartbeats 8000000 in
theorem fren_any (t : T) (F G : List ByteArray) (hFG : F.length = G.length) (hl : F.length < 20) (hsz : tsize t ≤ 1000000000) (lc : List Pr) (hq : ∀ q ∈ lc, tsize q.2 ≤ 1000000000) (hcn : lc.length ≤ 1000000) (xv : Value) (xa ta fa ga : Option Addr) (xc tc fc gc : Nat) (w : World) (ht : TysAt w (.slice ta t.kids.length tc) t.kids) (hF : StrsP (.slice fa F.length fc) F w) (hG : StrsP (.slice ga G.length gc) G w) (hP : PrsAt w (.slice xa lc.length xc) lc) :
    Calls Tryd.prog 34 #[.agg #[xv, .slice xa lc.length xc, .int .i64 t.kind, .string t.name, .slice ta t.kids.length tc], .slice fa F.length fc, .slice ga G.length gc] w fun e w' =>
      (∃ pa pc za zc, e = .returned (.agg #[.slice ga G.length gc, .slice pa lc.length pc, .int .i64 (app (prs F G) t).kind, .string (app (prs F G) t).name, .slice za (app (prs F G) t).kids.length zc]) ∧ PrsAt w' (.slice pa lc.length pc) (appP (prs F G) lc) ∧ TysAt w' (.slice za (app (prs F G) t).kids.length zc) (app (prs F G) t).kids) ∧ Below w.heap.size w w' := by
  obtain ⟨k, hk⟩ : ∃ k, F.length = k := ⟨_, rfl⟩
  have hmk := make_row4 k (by omega)
  have HT := Lib.hid ht; have HF := Lib.hid hF; have HG := Lib.hid hG; have HPr := Lib.hid hP; have HQ := Lib.hid hq
  have hGk : G.length = k := by omega
  rw [hk] at HF
  rw [hGk] at HG
  have HK := Lib.hid (And.intro hk hGk)
  rw [hk, hGk]
  have hk20 : k < 20 := by omega
  clear ht hF hG hFG hk hGk hP hq
  go_enter Tryd.func34, Tryd.ntmps34
  go_wp2
  go_loopw [16] (fun vi wr => ∃ (i : Nat) (ls : List PR), i ≤ k ∧ vi = .int .i64 i ∧ Hid (ls.length = i ∧ ∀ j, j < i → (ls.getD j noP).n = F.getD j ⟨#[]⟩ ∧ (ls.getD j noP).t = .var (G.getD j ⟨#[]⟩)) ∧ Hid (RowK (w.heap.size + 1 + 1) k ls wr) ∧ Hid (Below w.heap.size w wr) ∧
    Hid (wr.heap[w.heap.size]? = some (.cells #[xv, .slice xa lc.length xc, .int .i64 t.kind, .string t.name, .slice ta t.kids.length tc] 42 (0, 0)) ∧ wr.heap[w.heap.size + 1]? = some (.cells #[.slice none 0 0, .slice none 0 0, .int .i64 0, .string ⟨#[]⟩, .slice none 0 0] 42 (0, 0)))) (fun vi _ => k - (intOf vi).toNat)
  case atStart =>
    obtain ⟨n1, n2, n3⟩ := new_three w (.cells #[xv, .slice xa lc.length xc, .int .i64 t.kind, .string t.name, .slice ta t.kids.length tc] 42) (.cells #[.slice none 0 0, .slice none 0 0, .int .i64 0, .string ⟨#[]⟩, .slice none 0 0] 42) (.cells (zeros4 k) 82)
    exact ⟨0, [], Nat.zero_le _, rfl, Lib.hid ⟨rfl, fun j hj => absurd hj (Nat.not_lt_zero _)⟩, Lib.hid (RowK.start _ _ _ n3), Lib.hid (below_three w _ _ _), Lib.hid ⟨n1, n2⟩⟩
  case round =>
    obtain ⟨i, ls, hi, rfl, hL, hRow, hB, hbx⟩ := hrel
    have lG := hRow.out.lt
    by_cases hlt : i < k
    · obtain ⟨gF, oF, rfl, lF, cF⟩ := HF.out.at (by have := HK.out.1; omega)
      obtain ⟨gG, oG, rfl, lG', cG⟩ := HG.out.at (by have := HK.out.2; omega)
      have xF := (hB.out.cell (p := ⟨gF, oF + i, none⟩) lF).trans (cF i (by have := HK.out.1; omega))
      have xG := (hB.out.cell (p := ⟨gG, oG + i, none⟩) lG').trans (cG i (by have := HK.out.2; omega))
      have HL := Lib.hid (fun (x : PR) (h1 : x.n = F.getD i ⟨#[]⟩) (h2 : x.t = .var (G.getD i ⟨#[]⟩)) => (show (ls ++ [x]).length = i + 1 ∧ ∀ j, j < i + 1 → ((ls ++ [x]).getD j noP).n = F.getD j ⟨#[]⟩ ∧ ((ls ++ [x]).getD j noP).t = .var (G.getD j ⟨#[]⟩) from
        ⟨by simp [hL.out.1], fun j hj => by
          by_cases e : j = i
          · subst e
            have e2 : (ls ++ [x]).getD j noP = x := by simp [List.getD, ← hL.out.1]
            rw [e2]; exact ⟨h1, h2⟩
          · have hj' : j < ls.length := by rw [hL.out.1]; omega
            have e2 : (ls ++ [x]).getD j noP = ls.getD j noP := by simp [List.getD, List.getElem?_append_left hj']
            rw [e2]; exact hL.out.2 j (by omega)⟩))
      generalize F.getD i ⟨#[]⟩ = f at xF HL
      generalize G.getD i ⟨#[]⟩ = q at xG HL
      have HV := Lib.hid (fun W => tvar_any q W)
      have hiz : (i : Int) < (k : Int) := by omega
      have hll := Lib.hid hL.out.1
      clear cF cG hmk
      simp only [tyV] at HV
      go_wp2_with (go_at_call 47; fail)
      refine (HV.out _).mono ?_
      rintro e w4 ⟨⟨u, rfl, hu⟩, hb4⟩
      obtain ⟨ua, uc, rfl⟩ := hu.shape
      have HB4 := Lib.hid hb4
      have hR4 := Lib.hid (hRow.out.below hb4)
      obtain ⟨o0, o1, o2, o3, c0, c1, c2, c3⟩ := hR4.out.cells hlt
      have f0 := hR4.out.row.free (i * 4); have f1 := hR4.out.row.free (i * 4 + 1); have f2 := hR4.out.row.free (i * 4 + 2); have f3 := hR4.out.row.free (i * 4 + 3)
      clear hb4 hu
      go_wp2
      have HP := hR4.out.push (by have := hll.out; omega) (⟨f, .var q, ua, uc⟩ : PR)
      rw [hll.out] at HP
      have HF4 := Lib.hid ((Fr.of_below (g := w.heap.size + 1 + 1) HB4.out).trans (Fr.set4 (w.heap.size + 1 + 1) i w4 (⟨f, .var q, ua, uc⟩ : PR)))
      go_roundw
      case rel => exact ⟨i + 1, ls ++ [⟨f, .var q, ua, uc⟩], by omega, by go_num, Lib.hid (HL.out _ rfl rfl), Lib.hid HP, Lib.hid (hB.out.trans (HF4.out.below (by omega) hB.out.size)), Lib.hid ⟨(HF4.out.2 _ (by omega) (by omega)).trans hbx.out.1, (HF4.out.2 _ (by omega) (by omega)).trans hbx.out.2⟩⟩
      case measure => simp [intOf]; omega
    · have hki : i = k := by omega
      subst hki
      have hll := hL.out.1
      have HCp : Hid (Copy ls (prs F G)) := Lib.hid ⟨by rw [hll, prs_len]; have h1 := HK.out.1; have h2 := HK.out.2; omega, fun j hj => by
        have hj' : j < i := by rw [← hll]; exact hj
        obtain ⟨e1, e2⟩ := prs_get F G j (by have h1 := HK.out.1; have h2 := HK.out.2; omega)
        rw [e1, e2]; exact hL.out.2 j hj'⟩
      have HV : Hid (∀ x ∈ ls, ∃ q, x.t = .var q) := Lib.hid fun x hx => by
        obtain ⟨j, hj, rfl⟩ := List.mem_iff_getElem.1 hx
        have := (hL.out.2 j (by rw [← hll]; exact hj)).2
        exact ⟨_, by simpa [List.getD, hj] using this⟩
      have HSz : Hid (SizedAll ls ∧ FitsAll ls) := Lib.hid ⟨fun x hx => by obtain ⟨q, e⟩ := HV.out x hx; rw [e]; exact (by decide : (1 : Nat) ≤ 1000000000), fun x hx => by obtain ⟨q, e⟩ := HV.out x hx; rw [e]; exact .mk _ (show (0 : Nat) < 1152921504606846976 by decide) (fun k hk => by cases hk)⟩
      have HTy : Hid (∀ W, Typ ls W) := Lib.hid fun W x hx => by obtain ⟨q, e⟩ := HV.out x hx; rw [e]; exact TysAt.nil _ _ _
      have hof := of_all (w.heap.size + 1 + 1) i ls wr hRow.out.row (HTy.out _) HSz.out.2 HSz.out.1 (by have h1 := HK.out.1; have h2 := HK.out.2; omega)
      rw [hll] at hof
      have HOf := Lib.hid hof
      have HTw := Lib.hid (HT.out.keep (KeepT.of_below hB.out))
      have HPw := Lib.hid (HPr.out.keep (KeepT.of_below hB.out) (KeepP.of_below hB.out))
      have HE := Lib.hid (fun (l : List PR) (hg : Made ls l) (t : T) => app_congr (d := l) (d' := prs F G) (fun n => by rw [hg.same n]; unfold ty; rw [HCp.out.lk]) t)
      have HLen := Lib.hid hll
      clear hmk hL HV HF HG HT hof hll
      go_wp2_with (go_at_call 48; fail)
      refine HOf.out.mono ?_
      rintro e w4 ⟨⟨sv, l, rfl, hs, hm⟩, hb4⟩
      obtain ⟨sa, sc, rfl⟩ := hs.shape
      have hb5 := hb4.alloc hb4.size (.cells #[.slice sa l.length sc] 59)
      have hx0 := (hb5.block w.heap.size (by omega)).trans hbx.out.1
      have hx1 := (hb5.block (w.heap.size + 1) (by omega)).trans hbx.out.2
      have hS := (show SRc w w.heap.size (w.heap.size + 1) w4.heap.size xv xa xc lc t ta tc sa sc l (w4.alloc (.cells #[.slice sa l.length sc] 59)) from ⟨⟨⟨hx0, HTw.out.keep (KeepT.of_below hb5)⟩, hx1, BoxS.new hs, hB.out.trans (hb5.mono hB.out.size)⟩, HPw.out.keep (KeepT.of_below hb5) (KeepP.of_below hb5)⟩)
      have HS := Lib.hid hS; have HM := Lib.hid hm
      have hz5 : w.heap.size + 1 + 1 < w4.heap.size := Nat.lt_of_lt_of_le lG hb4.size
      clear hs hm hb4 hb5 hx0 hx1 hbx hRow HTw HPw HTy HOf hB HCp hS
      go_wp2_with (fail)
      refine frn_here (w := w) (b3 := w.heap.size) (b6 := w.heap.size + 1) (b10 := w4.heap.size) (xv := xv) (xa := xa) (ta := ta) (sa := sa) (ga := ga) (xc := xc) (tc := tc) (sc := sc) (gn := i) (gc := gc) (lc := lc) (t := t) (l := l)
        (fun V h => (predsG_any (.slice sa l.length sc) _ l lc V (by have := HM.out.len; have h1 := HK.out.1; have := HLen.out; omega) (fun x hx => by obtain ⟨y, hy, _, e⟩ := HM.out.sub x hx; rw [e]; exact HSz.out.1 y hy) h.1.2.2.1.2 h.2 HQ.out hcn).mono fun e Y hq => by
          obtain ⟨⟨ls', hm', rfl, hr', ht'⟩, hb⟩ := hq
          have hl' : ls'.length = lc.length := by have := congrArg List.length hm'; simpa [appP] using this
          refine ⟨⟨_, _, rfl, ?_⟩, hb⟩
          have := prs_of_rowG (cap := lc.length) hr' ht' (by omega)
          rw [hl', hm'] at this
          exact this)
        (fun V h => (apply_any (d := l) (t := t) (s := .slice sa l.length sc) (w := V) (by have := HM.out.len; have h1 := HK.out.1; have := HLen.out; omega) (fun x hx => by obtain ⟨y, hy, _, e⟩ := HM.out.sub x hx; rw [e]; exact HSz.out.1 y hy) hsz h.1.2.2.1.2 h.1.1.2).mono fun e Y hq => by
          obtain ⟨⟨za, zc, rfl, hin⟩, hb⟩ := hq
          exact ⟨⟨za, zc, rfl, hin.tys⟩, hb⟩)
        _ (by kernel_rfl) (by kernel_rfl) (by kernel_rfl) (by kernel_rfl) (by kernel_rfl) (by kernel_rfl) (HS.out.below (below_d _)) ?_
      intro x V zp zd za zc hV hPd hT
      have HE2 := HE.out l HM.out t
      have HE3 : appP l lc = appP (prs F G) lc := by unfold appP; exact List.map_congr_left fun q _ => by rw [HE.out l HM.out q.2]
      have hc := cells5 (set5_block hV.1.2.1 (.slice ga i gc) (.slice zp lc.length zd) (.int .i64 (app l t).kind) (.string (app l t).name) (.slice za (app l t).kids.length zc))
      have hkt : KeepT V (set5 V (w.heap.size + 1) (.slice ga i gc) (.slice zp lc.length zd) (.int .i64 (app l t).kind) (.string (app l t).name) (.slice za (app l t).kids.length zc)) := fun k cs fz hk => (set5_other _ _ _ _ _ _ _ (fun e => by subst e; rw [hV.1.2.1] at hk; simp at hk)).trans hk
      have hkp : KeepP V (set5 V (w.heap.size + 1) (.slice ga i gc) (.slice zp lc.length zd) (.int .i64 (app l t).kind) (.string (app l t).name) (.slice za (app l t).kids.length zc)) := fun k cs fz hk => (set5_other _ _ _ _ _ _ _ (fun e => by subst e; rw [hV.1.2.1] at hk; simp at hk)).trans hk
      have HEnd := Lib.hid (And.intro (And.intro (hPd.keep hkt hkp) (hT.keep hkt)) (below_set5 hV.1.2.2.2 (show w.heap.size ≤ w.heap.size + 1 by omega) (.slice ga i gc) (.slice zp lc.length zd) (.int .i64 (app l t).kind) (.string (app l t).name) (.slice za (app l t).kids.length zc)))
      generalize set5 V (w.heap.size + 1) (.slice ga i gc) (.slice zp lc.length zd) (.int .i64 (app l t).kind) (.string (app l t).name) (.slice za (app l t).kids.length zc) = Z at *
      rw [HE2, HE3] at HEnd
      rw [HE2] at hc
      clear hkt hkp hV hT hPd
      simp only [frnFr]
      simp only [Array.getD_eq_getD_getElem?, List.getElem?_toArray, List.getElem?_cons_succ, List.getElem?_cons_zero, Option.getD_some]
      go_wp2
      exact bodyPost_ret (v := .agg #[.slice ga i gc, .slice zp lc.length zd, .int .i64 (app (prs F G) t).kind, .string (app (prs F G) t).name, .slice za (app (prs F G) t).kids.length zc]) (by simp [results, Tryd.results34, go_sem, hc.1, hc.2.1, hc.2.2.1, hc.2.2.2.1, hc.2.2.2.2]) rfl ⟨⟨_, _, _, _, rfl, HEnd.out.1.1, HEnd.out.1.2⟩, HEnd.out.2⟩
end Go.Proofs.YtjnlchhikdfifaaDoor
/- paideiaref4's all: a type, then those of a context. -/
namespace Go.Proofs.YtjnlchhikdfifaaDoor
open Go.RowKit Go.Sort Go.Lib
attribute [local go_sem] Oper.semAt_some

/-- What the loop keeps: the types so far, in a row of one's own; their parts lie as they lay. -/
def ALI (w : World) (l : List T) (v : Value) (n : Nat) (wr : World) : Prop :=
  (∃ xs : List Tl, (xs.map (·.1) = l ∧ n = xs.length) ∧ wr.ownsRow w.heap.size 33 3 v xs.length (cellsOf xs) ∧ ∀ x ∈ xs, TyIn (fun k => k < w.heap.size) w x.1 (.slice x.2.1 x.1.kids.length x.2.2)) ∧ Below w.heap.size w wr
theorem ali_start {w : World} {o : Obj} {t : T} {a : Option Addr} {c : Nat} (h : TyIn (fun k => k < w.heap.size) w t (.slice a t.kids.length c)) :
    ALI w [t] (.slice (some ⟨w.heap.size + 1, 0, none⟩) 1 1) 1 ((w.alloc o).alloc (.cells #[.int .i64 t.kind, .string t.name, .slice a t.kids.length c] 33)) :=
  ⟨⟨[(t, a, c)], ⟨rfl, rfl⟩, ⟨rfl, .inr ⟨w.heap.size + 1, 1, #[.int .i64 t.kind, .string t.name, .slice a t.kids.length c], rfl, by omega, new_two w o _, Nat.le_refl _, by unfold maxLen; omega, rfl, rfl⟩⟩, fun x hx => by rw [List.mem_singleton.1 hx]; exact h⟩, below_two w _ _⟩
set_option maxRecDepth 100000 in
set_option maxHeartbeats 4000000 in
theorem rallc_any (t : T) (lc : List Pr) (ta va : Option Addr) (tc vc : Nat) (w : World) (ht : TysAt w (.slice ta t.kids.length tc) t.kids) (hP : PrsAt w (.slice va lc.length vc) lc) (hn : lc.length ≤ 1000000) :
    Calls Tryd.prog 32 #[.agg #[.int .i64 t.kind, .string t.name, .slice ta t.kids.length tc], .slice va lc.length vc] w fun e w' =>
      (∃ a c, e = .returned (.slice a (lc.length + 1) c) ∧ TysAt w' (.slice a (lc.length + 1) c) (t :: lc.map (·.2))) ∧ Below w.heap.size w w' := by
  obtain ⟨i0, hi, hz0, hz1, hz2⟩ := info_parts Tryd.infoTy
  have lt : ∀ (k : Nat) (cs : Array Value) (fz : Nat × Nat), w.heap[k]? = some (.cells cs 33 fz) → k < w.heap.size := fun k _ _ hk => (Array.getElem?_eq_some_iff.1 hk).1
  have HS0 := Lib.hid (fun o => ali_start (o := o) (ht.inside lt))
  have HRow := Lib.hid (fun (i : Nat) (hi : i < lc.length) => (by obtain ⟨g, cap, e, hg, hc, hr⟩ := hP.row (by rintro rfl; cases hi); exact ⟨g, cap, e, hg, hc, hr i hi⟩ : ∃ g cap, Value.slice va lc.length vc = .slice (some ⟨g, 0, none⟩) lc.length cap ∧ g < w.heap.size ∧ lc.length ≤ cap ∧ ∃ a c, w.cell? ⟨g, i * 4, none⟩ = some (.string lc[i].1) ∧ w.cell? ⟨g, i * 4 + 1, none⟩ = some (.int .i64 lc[i].2.kind) ∧ w.cell? ⟨g, i * 4 + 2, none⟩ = some (.string lc[i].2.name) ∧ w.cell? ⟨g, i * 4 + 3, none⟩ = some (.slice a lc[i].2.kids.length c) ∧ TysAt w (.slice a lc[i].2.kids.length c) lc[i].2.kids))
  have HLt := Lib.hid lt
  clear ht hP lt
  go_enter Tryd.func32, Tryd.ntmps32
  go_wp2
  go_loopw [5, 6] (fun vo vi wr => ∃ (i n e : Nat) (b : Option Addr), i ≤ lc.length ∧ vi = .int .i64 i ∧ vo = .slice b n e ∧ Hid (ALI w (t :: (lc.take i).map (·.2)) (.slice b n e) n wr)) (fun _ vi _ => lc.length - (intOf vi).toNat)
  case atStart => exact ⟨0, 1, 1, _, Nat.zero_le _, rfl, rfl, Lib.hid (HS0.out _)⟩
  case round =>
    obtain ⟨i, n, e, b, hi', rfl, rfl, hF⟩ := hrel
    by_cases hlt : i < lc.length
    · obtain ⟨⟨xs, ⟨hx1, rfl⟩, hrow, hbs⟩, hBl⟩ := hF.out
      obtain ⟨g, cap, he, hg, hcap, a, c, x0, x1, x2, x3, xk⟩ := HRow.out i hlt
      cases he
      have y1 := (hBl.cell (p := ⟨g, i * 4 + 1, none⟩) hg).trans x1
      have y2 := (hBl.cell (p := ⟨g, i * 4 + 2, none⟩) hg).trans x2
      have y3 := (hBl.cell (p := ⟨g, i * 4 + 3, none⟩) hg).trans x3
      have y0 := (hBl.cell (p := ⟨g, i * 4, none⟩) hg).trans x0
      have hxb : xs.length ≤ 1000001 := by have := congrArg List.length hx1; simp at this; omega
      have HTk := Lib.hid (show t :: (lc.take (i + 1)).map (·.2) = (t :: (lc.take i).map (·.2)) ++ [lc[i].2] by rw [List.take_succ_eq_append_getElem hlt, List.map_append]; rfl)
      have HX1 := Lib.hid hx1; have HIn := Lib.hid (xk.inside HLt.out)
      have HR := Lib.hid hrow; have HBs := Lib.hid hbs; have HBl := Lib.hid hBl
      have hz := hBl.size
      have hgz : g < wr.heap.size := by omega
      clear x0 x1 x2 x3 xk hx1 hrow hbs hBl hF HRow
      generalize lc[i] = u at *
      have hlt1 : ((i : Int) < (lc.length : Int)) := by omega
      go_wp2_with (at_builtin; refine wpList_append_lies _ rfl _ _ 31 rfl w.heap.size 33 i0 (.agg #[.int .i64 0, .string ⟨#[]⟩, .slice none 0 0]) 3 48 Tryd.underlying31 hi hz0 hz1 hz2 rfl (by decide) _ _ _ rfl (HR.out.alloc _) ⟨wr.heap.size, 0, none⟩ 1 1 [.int .i64 u.2.kind, .string u.2.name, .slice a u.2.kids.length c] rfl rfl (cell_new3 _ _ _ _ _) (by simp [Value.oneCell']) (by decide) ?c3 ?c4 ?c5 _ rfl ?_)
      case c3 => unfold maxLen; omega
      case c4 => omega
      case c5 => first | omega | (simp; omega)
      intro g3 cap3 W3 hown3 hgrow hat3 hlt3
      have HO3 := Lib.hid hown3
      have HB3 := Lib.hid ((HBl.out.alloc hz _).grown hgrow (by simp; omega) (fun j hj => (HR.out.lt j hj).1))
      clear hown3 hgrow hat3
      go_wp2
      go_roundw
      case rel =>
        refine ⟨i + 1, xs.length + 1, cap3, some ⟨g3, 0, none⟩, by omega, by go_num, rfl, Lib.hid ⟨⟨xs ++ [(u.2, a, c)], ⟨?_, by simp⟩, ?_, ?_⟩, HB3.out⟩⟩
        · rw [HTk.out, List.map_append, HX1.out]; rfl
        · rw [cellsOf_snoc, List.length_append]; exact HO3.out
        · intro y hy
          rcases List.mem_append.1 hy with hy | hy
          · exact HBs.out y hy
          · rw [List.mem_singleton.1 hy]; exact HIn.out
      case measure => simp [intOf]; omega
    · obtain rfl : i = lc.length := by omega
      rw [List.take_length] at hF
      have HF := Lib.hid hF.out
      clear hF HRow HLt HS0
      go_wp2
      go_ret
      obtain ⟨⟨xs, ⟨hx1, rfl⟩, hrow, hbs⟩, hBl⟩ := HF.out
      have hxl : xs.length = lc.length + 1 := by have := congrArg List.length hx1; simpa using this
      have hin : TyIn (fun k => k < w.heap.size ∨ w.heap.size ≤ k) wr (.con ⟨#[]⟩ (t :: lc.map (·.2))) (.slice b xs.length e) := in_of_row (by rw [hx1]; rfl) hrow (fun g hg => .inr (hrow.lt g hg).1) (fun x hx => ((hbs x hx).keep fun k _ _ hk hh => (hBl.block k hk).trans hh).mono fun k hk => .inl hk)
      have ht := hin.tys
      rw [hxl] at ht ⊢
      exact ⟨⟨b, e, rfl, ht⟩, hBl⟩
end Go.Proofs.YtjnlchhikdfifaaDoor
/- types.Size, types.Has; the document's Size. -/
namespace Go.Proofs.YtjnlchhikdfifaaDoor
open Go.RowKit
attribute [local go_sem] Oper.semAt_some

end Go.Proofs.YtjnlchhikdfifaaDoor
/- The document's variables of a type: Texts, vars, Vars. -/
namespace Go.Proofs.YtjnlchhikdfifaaDoor
open Go.RowKit
attribute [local go_sem] Oper.semAt_some

theorem make_strs (n : Nat) (hn : n ≤ 1000000000) (w : World) :
    (Instr.makeSlice 40 (.int .i64 0) (.int .i64 (n : Int))).run Tryd.prog w = .ok (.slice (some ⟨w.heap.size, 0, none⟩) 0 n) (w.alloc (.cells (madeCells #[.string ⟨#[]⟩] n) 9)) := by
  obtain ⟨i, hi, hzz⟩ := Option.map_eq_some_iff.1 Tryd.infoStr
  simp only [Prod.mk.injEq] at hzz
  obtain ⟨hz, hs, hb⟩ := hzz
  have hr := run_make (P := Tryd.prog) w 40 9 i _ Tryd.underlying40 hi hz .i64 .i64 0 n (by omega) (by omega) (by rw [hb]; omega) (by omega)
  simp only [Int.toNat_natCast, hs, Nat.mul_one] at hr
  exact hr
theorem below_grown {B : Nat} {w X w1 : World} {o : Obj} {e : TypeId} {size n : Nat} {v : Value} {xs : List Value} (hB : Below B w X) (hown : X.ownsRow B e size v n xs) (hg : (X.alloc o).grownBy w1 v.ownBlock) (hb : B ≤ X.heap.size) : Below B w w1 :=
  hB.trans ⟨hg.os, hg.tape, hg.output, by have := hg.size; simp at this; omega, fun k hk => (hg.block k (by simp; omega) fun e => by have := (hown.lt k e.symm).1; omega).trans (Below.heap_alloc X o k (by omega))⟩

set_option maxHeartbeats 2000000 in
theorem textsR_any (l : List ByteArray) (hl : l.length ≤ 1000000000) (a : Option Addr) (c : Nat) (w : World) (h : TextsAt w (.slice a l.length c) l) :
    Calls Tryd.prog 66 #[.slice a l.length c] w fun e w' => (∃ v, e = .returned v ∧ w'.ownsRow w.heap.size 9 1 v l.length (l.map Value.string)) ∧ Below w.heap.size w w' := by
  have HR := Lib.hid (h.part.2)
  have hmk := make_strs l.length (by omega)
  obtain ⟨i0, hi, hz0, hz1, hz2⟩ := info_parts Tryd.infoStr
  clear h
  go_enter Tryd.func66, Tryd.ntmps66
  go_wp2
  go_loopw [3, 4] (fun v vi wr => ∃ (i : Nat) (b : Option Addr) (d : Nat), i ≤ l.length ∧ vi = .int .i64 i ∧ v = .slice b i d ∧ Hid (Below w.heap.size w wr) ∧ Hid (wr.ownsRow w.heap.size 9 1 (.slice b i d) i ((l.take i).map Value.string))) (fun _ vi _ => l.length - (intOf vi).toNat)
  case atStart => exact ⟨0, _, _, Nat.zero_le _, rfl, rfl, Lib.hid ((Below.refl _ w).alloc (Nat.le_refl _) _), Lib.hid (World.ownsRow_made w _ l.length (Nat.le_refl _) (by unfold maxLen; omega) (by simp [size_madeCells]))⟩
  case round =>
    obtain ⟨i, b, d, hi', rfl, rfl, hB, hO⟩ := hrel
    by_cases hlt : i < l.length
    · obtain ⟨g, rfl, hc, hg, hh⟩ := HR.out i hlt
      have x0 := hh wr (fun k _ _ hk => (hB.out.block k (Array.getElem?_eq_some_iff.1 hk).1).trans hk)
      have htk : l.take (i + 1) = l.take i ++ [l[i]] := by rw [List.take_succ_eq_append_getElem hlt]
      have HT := Lib.hid htk
      have hgr : g < wr.heap.size := Nat.lt_of_lt_of_le hg hB.out.size
      clear hh HR htk hmk
      generalize l[i] = u at x0 HT
      have hlt1 : ((i : Int) < (l.length : Int)) := by omega
      go_wp2_with (at_builtin; refine wpList_append_own _ rfl _ _ 40 rfl w.heap.size 9 i0 (.string ⟨#[]⟩) 1 16 Tryd.underlying40 hi hz0 hz1 hz2 rfl (by decide) _ _ _ rfl (hO.out.alloc _) ⟨wr.heap.size, 0, none⟩ 1 1 [.string u] rfl rfl (new_one _ _ _) (by simp [Value.oneCell']) (by unfold maxLen; omega) (by omega) (by simp; have := hB.out.size; omega) ?_; intro v' w1 hown' hgrow _; obtain ⟨ga, gc, rfl⟩ := row_slice hown'; have HOW := Lib.hid hown'; have HBW := Lib.hid (below_grown hB.out hO.out hgrow hB.out.size); clear hown' hgrow)
      go_roundw
      case rel => exact ⟨i + 1, ga, gc, by omega, by go_num, rfl, HBW, Lib.hid (by rw [HT.out, List.map_append]; exact HOW.out)⟩
      case measure => simp [intOf]; omega
    · obtain rfl : i = l.length := by omega
      rw [List.take_length] at hO
      clear HR hmk
      go_wp2
      go_ret
      exact ⟨⟨_, rfl, hO.out⟩, hB.out⟩

mutual
theorem fv_congr (t : T) (bd bd' out : List ByteArray) (h : ∀ x, x ∈ bd ↔ x ∈ bd') : fv bd out t = fv bd' out t := by
  cases t with
  | var n =>
    rw [fv, fv]
    by_cases hx : n ∈ bd ∨ n ∈ out
    · rw [if_pos hx, if_pos (by rw [← h]; exact hx)]
    · rw [if_neg hx, if_neg (by rw [← h]; exact hx)]
  | con n l => rw [fv, fv]; exact fvs_congr l bd bd' out h
  | fn a b => rw [fv, fv, fv_congr a bd bd' out h, fv_congr b bd bd' _ h]
  | all n a => rw [fv, fv]; exact fv_congr a _ _ out (fun x => by simp only [List.mem_cons, h])
theorem fvs_congr (l : List T) (bd bd' out : List ByteArray) (h : ∀ x, x ∈ bd ↔ x ∈ bd') : fvs bd out l = fvs bd' out l := by
  cases l with
  | nil => rw [fvs, fvs]
  | cons a l => rw [fvs, fvs, fv_congr a bd bd' out h, fvs_congr l bd bd' _ h]
end

def RVarsOK (t : T) : Prop := ∀ (bd out : List ByteArray) (oa ba a : Option Addr) (oc bc c : Nat) (w : World), TextsAt w (.slice oa out.length oc) out → TextsAt w (.slice ba bd.length bc) bd → TysAt w (.slice a t.kids.length c) t.kids →
    out.length + tsize t ≤ 1000000000 → bd.length + tsize t ≤ 1000000000 →
    Calls Tryd.prog 45 #[.slice oa out.length oc, .slice ba bd.length bc, tyV t (.slice a t.kids.length c)] w fun e w' => (∃ v, e = .returned v ∧ TextsAt w' v (fv bd out t)) ∧ Below w.heap.size w w'

theorem own_base {W : World} {b b' : Nat} {e : TypeId} {size n : Nat} {v : Value} {xs : List Value} (h : W.ownsRow b e size v n xs) (hb : b' ≤ b) : W.ownsRow b' e size v n xs := by
  refine ⟨h.1, ?_⟩
  rcases h.2 with h | ⟨g, cap, cur, rfl, hg, r⟩
  · exact .inl h
  · exact .inr ⟨g, cap, cur, rfl, Nat.le_trans hb hg, r⟩
theorem below_grown0 {B : Nat} {w X w1 : World} {e : TypeId} {size n : Nat} {v : Value} {xs : List Value} (hB : Below B w X) (hown : X.ownsRow B e size v n xs) (hg : X.grownBy w1 v.ownBlock) (hb : B ≤ X.heap.size) : Below B w w1 :=
  hB.trans ⟨hg.os, hg.tape, hg.output, hg.size, fun k hk => hg.block k (by omega) fun e => by have := (hown.lt k e.symm).1; omega⟩
theorem texts_snoc {W : World} {base : Nat} {v : Value} {l : List ByteArray} {x : ByteArray} (h : W.ownsRow base 9 1 v (l.length + 1) (l.map Value.string ++ [.string x])) : TextsAt W v (l ++ [x]) := by
  have e : l.length + 1 = (l ++ [x]).length := by simp
  have e2 : l.map Value.string ++ [.string x] = (l ++ [x]).map Value.string := by simp
  rw [e, e2] at h
  exact TextsAt.of_row h
set_option maxRecDepth 100000 in
set_option maxHeartbeats 4000000 in
theorem rvars_var (t : T) (hk : t.kind = 1) (h0 : t.kids = []) (bd out : List ByteArray) (oa ba a : Option Addr) (oc bc c : Nat) (w : World) (ho : TextsAt w (.slice oa out.length oc) out) (hb : TextsAt w (.slice ba bd.length bc) bd) (hol : out.length ≤ 1000000000) (hbl : bd.length ≤ 1000000000) (hn : out.length < 1000000000) :
    Calls Tryd.prog 45 #[.slice oa out.length oc, .slice ba bd.length bc, tyV t (.slice a t.kids.length c)] w fun e w' => (∃ v, e = .returned v ∧ TextsAt w' v (if inB out t.name = true ∨ inB bd t.name = true then out else out ++ [t.name])) ∧ Below w.heap.size w w' := by
  have hl : t.kids.length = 0 := by rw [h0]; rfl
  rw [hl]
  simp only [tyV, hk]
  have HBd := Lib.hid (fun o => (Below.refl _ w).alloc (Nat.le_refl _) o)
  have HO := Lib.hid (fun (V : World) (k : Below w.heap.size w V) => hasR_any out (by omega) t.name oa oc V (ho.below k))
  have HBb := Lib.hid (fun (V : World) (k : Below w.heap.size w V) => hasR_any bd (by omega) t.name ba bc V (hb.below k))
  have HOut := Lib.hid ho
  have HTx := Lib.hid (fun (V : World) (k : Below w.heap.size w V) => textsR_any out hol oa oc V (ho.below k))
  clear hl h0 hb ho
  cases h1 : inB out t.name with
  | true =>
    rw [if_pos (.inl rfl)]
    rw [h1] at HO
    clear h1 HBb HTx
    go_enter Tryd.func45, Tryd.ntmps45
    go_wp2_with (go_at_call 15; refine (HO.out _ ?kk).mono ?_; (case kk => exact HBd.out _); rintro e w2 ⟨rfl, rfl⟩)
    go_ret
    exact ⟨⟨_, rfl, HOut.out.below (HBd.out _)⟩, HBd.out _⟩
  | false =>
    rw [h1] at HO
    cases h2 : inB bd t.name with
    | true =>
      rw [if_pos (.inr rfl)]
      rw [h2] at HBb
      clear h1 h2 HTx
      go_enter Tryd.func45, Tryd.ntmps45
      go_wp2_with (go_at_call 15; first | ((with_reducible refine (HO.out _ ?kk).mono ?_); (case kk => exact HBd.out _); rintro e w2 ⟨rfl, rfl⟩) | ((with_reducible refine (HBb.out _ ?kk).mono ?_); (case kk => exact HBd.out _); rintro e w2 ⟨rfl, rfl⟩))
      go_ret
      exact ⟨⟨_, rfl, HOut.out.below (HBd.out _)⟩, HBd.out _⟩
    | false =>
      rw [if_neg (fun e => by simp at e)]
      rw [h2] at HBb
      clear h1 h2
      go_enter Tryd.func45, Tryd.ntmps45
      go_wp2_with (go_at_call 15; first | ((with_reducible refine (HO.out _ ?kk).mono ?_); (case kk => exact HBd.out _); rintro e w2 ⟨rfl, rfl⟩) | ((with_reducible refine (HBb.out _ ?kk).mono ?_); (case kk => exact HBd.out _); rintro e w2 ⟨rfl, rfl⟩))
      obtain ⟨i0, hi, hz0, hz1, hz2⟩ := info_parts Tryd.infoStr
      refine with_worldC (fun V => Below w.heap.size w V ∧ V.heap[w.heap.size]? = some (.cells #[.int .i64 1, .string t.name, .slice a 0 c] 33 (0, 0))) ⟨HBd.out _, alloc_new w _⟩ ?_
      rintro V ⟨hbV, hbox⟩
      obtain ⟨z0, z1, z2⟩ := three_cells hbox
      have HBV := Lib.hid hbV; have HBox := Lib.hid hbox
      have lV := (Array.getElem?_eq_some_iff.1 hbox).1
      have al : Hid (∀ (o : Obj), (V.alloc o).cell? ⟨w.heap.size, 1, none⟩ = some (.string t.name)) := Lib.hid fun o => (((Below.refl V.heap.size V).alloc (Nat.le_refl _) o).cell (p := ⟨w.heap.size, 1, none⟩) lV).trans z1
      clear hbV hbox
      go_region_held3 (fun V' => V'.cell? ⟨w.heap.size, 1, none⟩ = some (.string t.name)) (first | exact z1 | exact al.out _ | exact y1 | exact aly.out _ | exact u1)
        (first
          | (go_at_call 66; refine (HTx.out V.drew ?kk).mono ?_; (case kk => exact HBV.out.drew); rintro e Y ⟨⟨v, rfl, hown⟩, hbY⟩; obtain ⟨va, vc, rfl⟩ := row_slice hown; have y1 := (hbY.cell (p := ⟨w.heap.size, 1, none⟩) lV).trans z1; have lY : V.heap.size ≤ Y.heap.size := hbY.size; have HBY := Lib.hid (HBV.out.trans (((Below.refl _ V).drew.trans hbY).mono HBV.out.size)); have aly : Hid (∀ (o : Obj), (Y.alloc o).cell? ⟨w.heap.size, 1, none⟩ = some (.string t.name)) := Lib.hid (fun o => (((Below.refl Y.heap.size Y).alloc (Nat.le_refl _) o).cell (p := ⟨w.heap.size, 1, none⟩) (by show w.heap.size < Y.heap.size; omega)).trans y1); have HBoxY := Lib.hid ((hbY.block w.heap.size lV).trans HBox.out); have HOW := Lib.hid (show Y.ownsRow V.heap.size 9 1 _ _ _ from hown); clear hown hbY)
          | (go_at_call 66; refine (HTx.out (V.alloc (.cells #[.string t.name] 9)).drew ?kk).mono ?_; (case kk => exact (HBV.out.alloc HBV.out.size _).drew); rintro e Y ⟨⟨v, rfl, hown⟩, hbY⟩; obtain ⟨va, vc, rfl⟩ := row_slice hown; have hnb : Y.heap[V.heap.size]? = some (.cells #[.string t.name] 9 (0, 0)) := (hbY.block V.heap.size (by simp)).trans (alloc_new V _); have y1 : Y.cell? ⟨w.heap.size, 1, none⟩ = some (.string t.name) := (hbY.cell (p := ⟨w.heap.size, 1, none⟩) (by simp; omega)).trans (al.out _); have lY : V.heap.size < Y.heap.size := (Array.getElem?_eq_some_iff.1 hnb).1; have HBY := Lib.hid (HBV.out.trans ((((Below.refl _ V).alloc (Nat.le_refl _) _).drew.trans (hbY.mono (by simp))).mono HBV.out.size)); have HBoxY := Lib.hid ((hbY.block w.heap.size (by simp; omega)).trans ((Below.heap_alloc V _ _ lV).trans HBox.out)); have HNB := Lib.hid (World.news_of_block hnb); have hown' : Y.ownsRow (V.heap.size + 1) 9 1 (.slice va out.length vc) out.length (out.map Value.string) := (by simpa using hown); have HOW := Lib.hid hown'; clear hown hown' hbY hnb)
          | (refine step_append_lies _ (by rfl) _ _ 40 (by rfl) V.heap.size 9 i0 (.string ⟨#[]⟩) 1 16 Tryd.underlying40 hi hz0 hz1 hz2 rfl (by decide) _ out.length (out.map Value.string) (by rfl) (HOW.out.alloc _) ⟨Y.heap.size, 0, none⟩ 1 1 [.string t.name] (by rfl) rfl (new_one _ _ _) (by simp [Value.oneCell']) (by decide) (by unfold maxLen; omega) (by omega) (by simp; omega) (Y.heap.size + 1) (by simp) ?_; intro g' cap' w1 hown1 hgrow _ _; have hb1 := Lib.hid (below_grown (B := w.heap.size) HBY.out (own_base HOW.out HBV.out.size) hgrow (Nat.le_trans HBV.out.size lY)); have bx1 := Lib.hid ((row_other (HOW.out.alloc _) hgrow ((Below.heap_alloc Y _ _ (by omega)).trans HBoxY.out) (by decide))); have u1 : w1.cell? ⟨w.heap.size, 1, none⟩ = some (.string t.name) := (by rw [Lib.cell_of_heap bx1.out]; rfl); have HFin := Lib.hid (texts_snoc hown1); clear hown1 hgrow)
          | (refine step_append_lies _ (by rfl) _ _ 40 (by rfl) (V.heap.size + 1) 9 i0 (.string ⟨#[]⟩) 1 16 Tryd.underlying40 hi hz0 hz1 hz2 rfl (by decide) _ out.length (out.map Value.string) (by rfl) HOW.out ⟨V.heap.size, 0, none⟩ 1 1 [.string t.name] (by rfl) rfl HNB.out (by simp [Value.oneCell']) (by decide) (by unfold maxLen; omega) (by omega) (by omega) Y.heap.size rfl ?_; intro g' cap' w1 hown1 hgrow _ _; have hb1 := Lib.hid (below_grown0 (B := w.heap.size) HBY.out (own_base HOW.out (by have := HBV.out.size; omega)) hgrow (by have := HBV.out.size; omega)); have bx1 := Lib.hid (row_other HOW.out hgrow HBoxY.out (by decide)); have u1 : w1.cell? ⟨w.heap.size, 1, none⟩ = some (.string t.name) := (by rw [Lib.cell_of_heap bx1.out]; rfl); have HFin := Lib.hid (texts_snoc hown1); clear hown1 hgrow))
      all_goals
        clear y1
        go_wp2
        go_ret
        exact ⟨⟨_, rfl, HFin.out⟩, hb1.out⟩
end Go.Proofs.YtjnlchhikdfifaaDoor
/- The document's vars, of a constructor, of a function. -/
namespace Go.Proofs.YtjnlchhikdfifaaDoor
open Go.RowKit
attribute [local go_sem] Oper.semAt_some

set_option maxHeartbeats 800000 in
theorem rvars_plain (t : T) (H : ∀ k ∈ t.kids, RVarsOK k) (hk1 : ¬ t.kind = 1) (hk4 : ¬ t.kind = 4) (bd out : List ByteArray) (oa ba a : Option Addr) (oc bc c : Nat) (w : World) (ho : TextsAt w (.slice oa out.length oc) out) (hb : TextsAt w (.slice ba bd.length bc) bd) (ht : TysAt w (.slice a t.kids.length c) t.kids)
    (hol : out.length + tsize t ≤ 1000000000) (hbl : bd.length + tsize t ≤ 1000000000) :
    Calls Tryd.prog 45 #[.slice oa out.length oc, .slice ba bd.length bc, tyV t (.slice a t.kids.length c)] w fun e w' => (∃ v, e = .returned v ∧ TextsAt w' v (fvs bd out t.kids)) ∧ Below w.heap.size w w' := by
  have q1 : (t.kind == 1) = false := by simpa using hk1
  have q4 : (t.kind == 4) = false := by simpa using hk4
  have hz := tsize_eq t
  have hlen := len_sizes' t.kids
  have HBd := Lib.hid (fun o => (Below.refl _ w).alloc (Nat.le_refl _) o)
  have HR := Lib.hid ht.part
  have HS := Lib.hid H
  have HO := Lib.hid ho; have HBb := Lib.hid hb
  clear hk1 hk4 ht H ho hb
  simp only [tyV]
  go_enter Tryd.func45, Tryd.ntmps45
  go_wp2
  go_loopw [0, 7] (fun vo vi wr => ∃ (i : Nat) (b : Option Addr) (d n : Nat), i ≤ t.kids.length ∧ vi = .int .i64 i ∧ vo = .slice b n d ∧ Hid (n = (fvs bd out (t.kids.take i)).length ∧ TextsAt wr (.slice b n d) (fvs bd out (t.kids.take i)) ∧ Below w.heap.size w wr) ∧ Hid (TextsAt wr (.slice ba bd.length bc) bd) ∧ Hid (wr.heap[w.heap.size]? = some (.cells #[.int .i64 t.kind, .string t.name, .slice a t.kids.length c] 33 (0, 0)))) (fun _ vi _ => t.kids.length - (intOf vi).toNat)
  case atStart => exact ⟨0, oa, oc, out.length, Nat.zero_le _, rfl, rfl, Lib.hid ⟨by simp [fvs], by simpa [fvs] using HO.out.below (HBd.out _), HBd.out _⟩, Lib.hid (HBb.out.below (HBd.out _)), Lib.hid (alloc_new w _)⟩
  case round =>
    obtain ⟨i, ob, od, n, hi', rfl, rfl, hF, hBd, hBox⟩ := hrel
    obtain ⟨b0, b1, b2⟩ := three_cells hBox.out
    by_cases hlt : i < t.kids.length
    · obtain ⟨hn, hT, hBl⟩ := hF.out
      obtain ⟨g, pa, ca, rfl, hcap, hr⟩ := HR.out i hlt
      obtain ⟨⟨hg, x0, x1, x2⟩, xk⟩ := hr wr (KeepT.of_below hBl)
      have hsz := tsizes_take t.kids i hlt
      have hl1 := fvs_len (t.kids.take i) bd out
      have hkk := size_mem' (List.getElem_mem hlt)
      rw [hn] at hT ⊢
      have HC := Lib.hid (HS.out t.kids[i] (List.getElem_mem hlt) bd (fvs bd out (t.kids.take i)) ob ba pa od bc ca wr hT hBd.out xk (by omega) (by omega))
      rw [← fvs_drop bd out t.kids i hlt] at HC
      have HB1 := Lib.hid hBl
      clear hr xk hsz hl1 hkk HS HR hF hT hBl hn
      generalize t.kids[i] = u at x0 x1 x2 HC
      simp only [tyV] at HC
      have hlt1 : ((i : Int) < (t.kids.length : Int)) := by omega
      generalize (fvs bd out (t.kids.take i)).length = m at HC ⊢
      go_wp2_with (go_at_call 45; refine HC.out.mono ?_; rintro e w2 ⟨⟨v2, rfl, hT2⟩, hb2⟩; obtain ⟨oe, of, rfl⟩ := hT2.shape; have HF2 := Lib.hid (⟨hT2, HB1.out.trans (hb2.mono HB1.out.size)⟩ : TextsAt w2 (.slice oe (fvs bd out (t.kids.take (i + 1))).length of) (fvs bd out (t.kids.take (i + 1))) ∧ Below w.heap.size w w2); have HBd2 := Lib.hid (hBd.out.below hb2); have HBox2 := Lib.hid ((hb2.block _ (Array.getElem?_eq_some_iff.1 hBox.out).1).trans hBox.out); clear hT2 hb2)
      go_roundw
      case rel => exact ⟨i + 1, oe, of, _, by omega, by go_num, rfl, Lib.hid ⟨rfl, HF2.out⟩, HBd2, HBox2⟩
      case measure => simp [intOf]; omega
    · obtain rfl : i = t.kids.length := by omega
      rw [List.take_length] at hF
      clear HR HS
      go_wp2
      go_ret
      exact ⟨⟨_, rfl, hF.out.2.1⟩, hF.out.2.2⟩
end Go.Proofs.YtjnlchhikdfifaaDoor
/- The document's vars, of a type for all. -/
namespace Go.Proofs.YtjnlchhikdfifaaDoor
open Go.RowKit
attribute [local go_sem] Oper.semAt_some

set_option maxRecDepth 100000 in
set_option maxHeartbeats 1000000 in
theorem rvars_all (t : T) (H : ∀ k ∈ t.kids, RVarsOK k) (hk4 : t.kind = 4) (bd out : List ByteArray) (oa ba a : Option Addr) (oc bc c : Nat) (w : World) (ho : TextsAt w (.slice oa out.length oc) out) (hb : TextsAt w (.slice ba bd.length bc) bd) (ht : TysAt w (.slice a t.kids.length c) t.kids)
    (hol : out.length + tsize t ≤ 1000000000) (hbl : bd.length + tsize t ≤ 1000000000) :
    Calls Tryd.prog 45 #[.slice oa out.length oc, .slice ba bd.length bc, tyV t (.slice a t.kids.length c)] w fun e w' => (∃ v, e = .returned v ∧ TextsAt w' v (fvs (bd ++ [t.name]) out t.kids)) ∧ Below w.heap.size w w' := by
  have hz := tsize_eq t
  have hlen := len_sizes' t.kids
  have hbl2 : bd.length ≤ 1000000000 := by omega
  have HBd := Lib.hid (fun o => (Below.refl _ w).alloc (Nat.le_refl _) o)
  have HR := Lib.hid ht.part
  have HS := Lib.hid H
  have HO := Lib.hid ho
  have HTb := Lib.hid (fun (V : World) (k : Below w.heap.size w V) => textsR_any bd hbl2 ba bc V (hb.below k))
  clear ht H ho hb
  simp only [tyV, hk4]
  clear hk4
  go_enter Tryd.func45, Tryd.ntmps45
  go_wp2
  obtain ⟨i0, hi, hz0, hz1, hz2⟩ := info_parts Tryd.infoStr
  refine with_worldC (fun V => Below w.heap.size w V ∧ V.heap[w.heap.size]? = some (.cells #[.int .i64 4, .string t.name, .slice a t.kids.length c] 33 (0, 0))) ⟨HBd.out _, alloc_new w _⟩ ?_
  rintro V ⟨hbV, hbox⟩
  obtain ⟨z0, z1, z2⟩ := three_cells hbox
  have HBV := Lib.hid hbV; have HBox := Lib.hid hbox
  have lV := (Array.getElem?_eq_some_iff.1 hbox).1
  have al : Hid (∀ (o : Obj), (V.alloc o).cell? ⟨w.heap.size, 1, none⟩ = some (.string t.name)) := Lib.hid fun o => (((Below.refl V.heap.size V).alloc (Nat.le_refl _) o).cell (p := ⟨w.heap.size, 1, none⟩) lV).trans z1
  clear hbV hbox
  go_region_held3 (fun V' => V'.cell? ⟨w.heap.size, 1, none⟩ = some (.string t.name)) (first | exact z1 | exact al.out _ | exact y1 | exact aly.out _ | exact u1)
    (first
      | (go_at_call 66; refine (HTb.out V.drew ?kk).mono ?_; (case kk => exact HBV.out.drew); rintro e Y ⟨⟨v, rfl, hown⟩, hbY⟩; obtain ⟨va, vc, rfl⟩ := row_slice hown; have y1 := (hbY.cell (p := ⟨w.heap.size, 1, none⟩) lV).trans z1; have lY : V.heap.size ≤ Y.heap.size := hbY.size; have HBY := Lib.hid (HBV.out.trans (((Below.refl _ V).drew.trans hbY).mono HBV.out.size)); have aly : Hid (∀ (o : Obj), (Y.alloc o).cell? ⟨w.heap.size, 1, none⟩ = some (.string t.name)) := Lib.hid (fun o => (((Below.refl Y.heap.size Y).alloc (Nat.le_refl _) o).cell (p := ⟨w.heap.size, 1, none⟩) (by show w.heap.size < Y.heap.size; omega)).trans y1); have HBoxY := Lib.hid ((hbY.block w.heap.size lV).trans HBox.out); have HOW := Lib.hid (show Y.ownsRow V.heap.size 9 1 _ _ _ from hown); clear hown hbY)
      | (go_at_call 66; refine (HTb.out (V.alloc (.cells #[.string t.name] 9)).drew ?kk).mono ?_; (case kk => exact (HBV.out.alloc HBV.out.size _).drew); rintro e Y ⟨⟨v, rfl, hown⟩, hbY⟩; obtain ⟨va, vc, rfl⟩ := row_slice hown; have hnb : Y.heap[V.heap.size]? = some (.cells #[.string t.name] 9 (0, 0)) := (hbY.block V.heap.size (by simp)).trans (alloc_new V _); have y1 : Y.cell? ⟨w.heap.size, 1, none⟩ = some (.string t.name) := (hbY.cell (p := ⟨w.heap.size, 1, none⟩) (by simp; omega)).trans (al.out _); have lY : V.heap.size < Y.heap.size := (Array.getElem?_eq_some_iff.1 hnb).1; have HBY := Lib.hid (HBV.out.trans ((((Below.refl _ V).alloc (Nat.le_refl _) _).drew.trans (hbY.mono (by simp))).mono HBV.out.size)); have HBoxY := Lib.hid ((hbY.block w.heap.size (by simp; omega)).trans ((Below.heap_alloc V _ _ lV).trans HBox.out)); have HNB := Lib.hid (World.news_of_block hnb); have hown' : Y.ownsRow (V.heap.size + 1) 9 1 (.slice va bd.length vc) bd.length (bd.map Value.string) := (by simpa using hown); have HOW := Lib.hid hown'; clear hown hown' hbY hnb)
      | (refine step_append_lies _ (by rfl) _ _ 40 (by rfl) V.heap.size 9 i0 (.string ⟨#[]⟩) 1 16 Tryd.underlying40 hi hz0 hz1 hz2 rfl (by decide) _ bd.length (bd.map Value.string) (by rfl) (HOW.out.alloc _) ⟨Y.heap.size, 0, none⟩ 1 1 [.string t.name] (by rfl) rfl (new_one _ _ _) (by simp [Value.oneCell']) (by decide) (by unfold maxLen; omega) (by omega) (by simp; omega) (Y.heap.size + 1) (by simp) ?_; intro g' cap' w1 hown1 hgrow _ _; have hb1 := Lib.hid (below_grown (B := w.heap.size) HBY.out (own_base HOW.out HBV.out.size) hgrow (Nat.le_trans HBV.out.size lY)); have bx1 := Lib.hid ((row_other (HOW.out.alloc _) hgrow ((Below.heap_alloc Y _ _ (by omega)).trans HBoxY.out) (by decide))); have u1 : w1.cell? ⟨w.heap.size, 1, none⟩ = some (.string t.name) := (by rw [Lib.cell_of_heap bx1.out]; rfl); have HFin := Lib.hid (texts_snoc hown1); clear hown1 hgrow)
      | (refine step_append_lies _ (by rfl) _ _ 40 (by rfl) (V.heap.size + 1) 9 i0 (.string ⟨#[]⟩) 1 16 Tryd.underlying40 hi hz0 hz1 hz2 rfl (by decide) _ bd.length (bd.map Value.string) (by rfl) HOW.out ⟨V.heap.size, 0, none⟩ 1 1 [.string t.name] (by rfl) rfl HNB.out (by simp [Value.oneCell']) (by decide) (by unfold maxLen; omega) (by omega) (by omega) Y.heap.size rfl ?_; intro g' cap' w1 hown1 hgrow _ _; have hb1 := Lib.hid (below_grown0 (B := w.heap.size) HBY.out (own_base HOW.out (by have := HBV.out.size; omega)) hgrow (by have := HBV.out.size; omega)); have bx1 := Lib.hid (row_other HOW.out hgrow HBoxY.out (by decide)); have u1 : w1.cell? ⟨w.heap.size, 1, none⟩ = some (.string t.name) := (by rw [Lib.cell_of_heap bx1.out]; rfl); have HFin := Lib.hid (texts_snoc hown1); clear hown1 hgrow))
  all_goals
    clear y1 z0 z1 z2 u1 lV lY
    obtain ⟨bd', hbd⟩ : ∃ b, bd ++ [t.name] = b := ⟨_, rfl⟩
    have hl' : bd.length + 1 = bd'.length := by rw [← hbd]; simp
    rw [hbd, hl'] at HFin
    rw [hl']
    have HBE := Lib.hid hbd
    have hbl' : bd'.length + tsizes t.kids ≤ 1000000000 := by omega
    clear hbd hl' HOW
    go_wp2
    go_loopw [0, 7] (fun vo vi wr => ∃ (i : Nat) (b : Option Addr) (d n : Nat), i ≤ t.kids.length ∧ vi = .int .i64 i ∧ vo = .slice b n d ∧ Hid (n = (fvs bd' out (t.kids.take i)).length ∧ TextsAt wr (.slice b n d) (fvs bd' out (t.kids.take i)) ∧ Below w.heap.size w wr) ∧ Hid (TextsAt wr (.slice (some ⟨g', 0, none⟩) bd'.length cap') bd') ∧ Hid (wr.heap[w.heap.size]? = some (.cells #[.int .i64 4, .string t.name, .slice a t.kids.length c] 33 (0, 0)))) (fun _ vi _ => t.kids.length - (intOf vi).toNat)
    case atStart => exact ⟨0, oa, oc, out.length, Nat.zero_le _, rfl, rfl, Lib.hid ⟨by simp [fvs], by simpa [fvs] using HO.out.below hb1.out, hb1.out⟩, Lib.hid HFin.out, Lib.hid bx1.out⟩
    case round =>
      obtain ⟨i, ob, od, n, hi', rfl, rfl, hF, hBd, hBox⟩ := hrel
      obtain ⟨b0, b1, b2⟩ := three_cells hBox.out
      by_cases hlt : i < t.kids.length
      · obtain ⟨hn, hT, hBl⟩ := hF.out
        obtain ⟨g, pa, ca, rfl, hcap, hr⟩ := HR.out i hlt
        obtain ⟨⟨hg, x0, x1, x2⟩, xk⟩ := hr wr (KeepT.of_below hBl)
        have hsz := tsizes_take t.kids i hlt
        have hl1 := fvs_len (t.kids.take i) bd' out
        have hkk := size_mem' (List.getElem_mem hlt)
        rw [hn] at hT ⊢
        have HC := Lib.hid (HS.out t.kids[i] (List.getElem_mem hlt) bd' (fvs bd' out (t.kids.take i)) ob (some ⟨g', 0, none⟩) pa od cap' ca wr hT hBd.out xk (by omega) (by omega))
        rw [← fvs_drop bd' out t.kids i hlt] at HC
        have HB1 := Lib.hid hBl
        clear hr xk hsz hl1 hkk HS HR hF hT hBl hn
        generalize t.kids[i] = u at x0 x1 x2 HC
        simp only [tyV] at HC
        have hlt1 : ((i : Int) < (t.kids.length : Int)) := by omega
        generalize (fvs bd' out (t.kids.take i)).length = m at HC ⊢
        go_wp2_with (go_at_call 45; refine HC.out.mono ?_; rintro e w2 ⟨⟨v2, rfl, hT2⟩, hb2⟩; obtain ⟨oe, of, rfl⟩ := hT2.shape; have HF2 := Lib.hid (⟨hT2, HB1.out.trans (hb2.mono HB1.out.size)⟩ : TextsAt w2 (.slice oe (fvs bd' out (t.kids.take (i + 1))).length of) (fvs bd' out (t.kids.take (i + 1))) ∧ Below w.heap.size w w2); have HBd2 := Lib.hid (hBd.out.below hb2); have HBox2 := Lib.hid ((hb2.block _ (Array.getElem?_eq_some_iff.1 hBox.out).1).trans hBox.out); clear hT2 hb2)
        go_roundw
        case rel => exact ⟨i + 1, oe, of, _, by omega, by go_num, rfl, Lib.hid ⟨rfl, HF2.out⟩, HBd2, HBox2⟩
        case measure => simp [intOf]; omega
      · obtain rfl : i = t.kids.length := by omega
        rw [List.take_length] at hF
        clear HR HS
        go_wp2
        go_ret
        exact ⟨⟨_, rfl, by rw [HBE.out]; exact hF.out.2.1⟩, hF.out.2.2⟩
end Go.Proofs.YtjnlchhikdfifaaDoor
/- The document's Vars. -/
namespace Go.Proofs.YtjnlchhikdfifaaDoor
open Go.RowKit
attribute [local go_sem] Oper.semAt_some

theorem rvars_any (t : T) : RVarsOK t := by
  refine T.by_kids (P := RVarsOK) (fun t H => ?_) t
  have hz := tsize_eq t
  intro bd out oa ba a oc bc c w ho hb ht hol hbl
  cases t with
  | var n =>
    refine (rvars_var (.var n) rfl rfl bd out oa ba a oc bc c w ho hb (by omega) (by omega) (by omega)).mono ?_
    rintro e w' ⟨⟨v, rfl, h⟩, hb'⟩
    refine ⟨⟨v, rfl, ?_⟩, hb'⟩
    rw [fv]
    by_cases hx : n ∈ bd ∨ n ∈ out
    · rw [if_pos hx]; rw [if_pos (hx.elim (fun e => .inr (inB_iff.2 e)) (fun e => .inl (inB_iff.2 e)))] at h; exact h
    · rw [if_neg hx]; rw [if_neg (fun e => hx (e.elim (fun e => .inr (inB_iff.1 e)) (fun e => .inl (inB_iff.1 e))))] at h; exact h
  | con n l => rw [fv]; exact rvars_plain (.con n l) H (by simp [T.kind]) (by simp [T.kind]) bd out oa ba a oc bc c w ho hb ht hol hbl
  | fn x y =>
    have e : fv bd out (.fn x y) = fvs bd out (T.fn x y).kids := by simp [fv, T.kids, fvs]
    rw [e]
    exact rvars_plain (.fn x y) H (by simp [T.kind]) (by simp [T.kind]) bd out oa ba a oc bc c w ho hb ht hol hbl
  | all n x =>
    have e : fv bd out (.all n x) = fvs (bd ++ [(T.all n x).name]) out (T.all n x).kids := by
      simp only [fv, T.kids, fvs, T.name]
      exact fv_congr x _ _ out (fun y => by simp only [List.mem_cons, List.mem_append, List.not_mem_nil, or_false]; exact Or.comm)
    rw [e]
    exact rvars_all (.all n x) H rfl bd out oa ba a oc bc c w ho hb ht hol hbl

set_option maxHeartbeats 2000000 in
theorem rVars_any (l : List T) (hs : tsizes l ≤ 1000000000) (a : Option Addr) (c : Nat) (w : World) (ht : TysAt w (.slice a l.length c) l) :
    Calls Tryd.prog 31 #[.slice a l.length c] w fun e w' => (∃ v, e = .returned v ∧ TextsAt w' v (fvs [] [] l)) ∧ Below w.heap.size w w' := by
  have hlen := len_sizes' l
  have HR := Lib.hid ht.part
  clear ht
  go_enter Tryd.func31, Tryd.ntmps31
  go_wp2
  go_loopw [3, 4] (fun vo vi wr => ∃ (i : Nat) (b : Option Addr) (d n : Nat), i ≤ l.length ∧ vi = .int .i64 i ∧ vo = .slice b n d ∧ Hid (n = (fvs [] [] (l.take i)).length ∧ TextsAt wr (.slice b n d) (fvs [] [] (l.take i)) ∧ Below w.heap.size w wr)) (fun _ vi _ => l.length - (intOf vi).toNat)
  case atStart => exact ⟨0, none, 0, 0, Nat.zero_le _, rfl, rfl, Lib.hid ⟨by simp [fvs], ⟨none, 0, by simp [fvs], .inl (by simp [fvs])⟩, Below.refl _ _⟩⟩
  case round =>
    obtain ⟨i, ob, od, n, hi', rfl, rfl, hF⟩ := hrel
    by_cases hlt : i < l.length
    · obtain ⟨hn, hT, hBl⟩ := hF.out
      obtain ⟨g, pa, ca, rfl, hcap, hr⟩ := HR.out i hlt
      obtain ⟨⟨hg, x0, x1, x2⟩, xk⟩ := hr wr (KeepT.of_below hBl)
      have hsz := tsizes_take l i hlt
      have hl1 := fvs_len (l.take i) [] []
      have hkk := size_mem' (List.getElem_mem hlt)
      rw [hn] at hT ⊢
      simp only [List.length_nil] at hl1
      have HC := Lib.hid (rvars_any l[i] [] (fvs [] [] (l.take i)) ob none pa od 0 ca wr hT ⟨none, 0, rfl, .inl rfl⟩ xk (by omega) (by simp only [List.length_nil]; omega))
      rw [← fvs_drop [] [] l i hlt] at HC
      have HB1 := Lib.hid hBl
      clear hr xk hsz hl1 hkk HR hF hT hBl hn
      generalize l[i] = u at x0 x1 x2 HC
      simp only [tyV, List.length_nil] at HC
      have hlt1 : ((i : Int) < (l.length : Int)) := by omega
      generalize (fvs [] [] (l.take i)).length = m at HC ⊢
      go_wp2_with (go_at_call 45; refine HC.out.mono ?_; rintro e w2 ⟨⟨v2, rfl, hT2⟩, hb2⟩; obtain ⟨oe, of, rfl⟩ := hT2.shape; have HF2 := Lib.hid (⟨hT2, HB1.out.trans (hb2.mono HB1.out.size)⟩ : TextsAt w2 (.slice oe (fvs [] [] (l.take (i + 1))).length of) (fvs [] [] (l.take (i + 1))) ∧ Below w.heap.size w w2); clear hT2 hb2)
      go_roundw
      case rel => exact ⟨i + 1, oe, of, _, by omega, by go_num, rfl, Lib.hid ⟨rfl, HF2.out⟩⟩
      case measure => simp [intOf]; omega
    · obtain rfl : i = l.length := by omega
      rw [List.take_length] at hF
      clear HR
      go_wp2
      go_ret
      exact ⟨⟨_, rfl, hF.out.2.1⟩, hF.out.2.2⟩
end Go.Proofs.YtjnlchhikdfifaaDoor
/- paideiaref4.Close, of whatever context, with nothing left out. -/
namespace Go.Proofs.YtjnlchhikdfifaaDoor
open Go.RowKit Go.Sort Go.Lib
attribute [local go_sem] Oper.semAt_some

theorem Tryd.infoStrC : (Tryd.prog.info? 9).map (fun i => (i.zero, i.size, i.bytes)) = some (some (.string ⟨#[]⟩), 1, 16) := by kernel_rfl
theorem frz_one (w : World) (x : Value) (t : TypeId) : ∀ j v, [x][j]? = some v → (w.alloc (.cells #[x] t)).cell? ((⟨w.heap.size, 0, none⟩ : Addr).add j) = some v := by
  intro j v hv
  have hadd : (⟨w.heap.size, 0, none⟩ : Addr).add j = ⟨w.heap.size, j, none⟩ := by unfold Addr.add; split <;> simp_all
  rw [hadd]
  have := alloc_new w (.cells #[x] t)
  simp only [World.cell?, this]
  match j, hv with
  | 0, hv => simpa using hv
  | n + 1, hv => simp at hv
theorem own_drew {W : World} {base : Nat} {e : TypeId} {size m : Nat} {vs : Value} {xs : List Value} (h : W.ownsRow base e size vs m xs) : W.drew.ownsRow base e size vs m xs := h
/-- What the loop keeps: the scheme in its block, its variables in a row of one's own; all else as it was behind Vars. -/
def CLI (p : Nat) (w W2 : World) (C K N S : Value) (L : List ByteArray) (i : Nat) (v : Value) (wr : World) : Prop :=
  wr.heap[p]? = some (.cells #[v, C, K, N, S] 42 (0, 0)) ∧ wr.ownsRow W2.heap.size 9 1 v i ((L.take i).map Value.string) ∧ (∀ k, k < W2.heap.size → k ≠ p → wr.heap[k]? = W2.heap[k]?) ∧ Below w.heap.size w wr ∧ W2.heap.size ≤ wr.heap.size
theorem CLI.step {p : Nat} {w W2 : World} {C K N S : Value} {L : List ByteArray} {i : Nat} {b : Option Addr} {d : Nat} {wr W5 : World} {o : Obj} {g cap : Nat} (h : CLI p w W2 C K N S L i (.slice b i d) wr) (hp : p < W2.heap.size) (hwp : w.heap.size ≤ p) (hi : i < L.length) (hg : (wr.alloc o).grownBy W5 (Value.slice b i d).ownBlock)
    (ho : W5.ownsRow W2.heap.size 9 1 (.slice (some ⟨g, 0, none⟩) (i + 1) cap) (i + 1) ((L.take i).map Value.string ++ [.string (L.getD i ⟨#[]⟩)])) :
    CLI p w W2 C K N S L (i + 1) (.slice (some ⟨g, 0, none⟩) (i + 1) cap) (W5.setCell ⟨p, 0, none⟩ (.slice (some ⟨g, 0, none⟩) (i + 1) cap)) := by
  obtain ⟨h1, h2, h3, h4, h5⟩ := h
  have hne : some p ≠ (Value.slice b i d).ownBlock := fun e => by have := (h2.lt p e.symm).1; omega
  have e1 : W5.heap[p]? = some (.cells #[.slice b i d, C, K, N, S] 42 (0, 0)) := (hg.block p (by simp; omega) hne).trans ((Below.heap_alloc wr o p (by omega)).trans h1)
  have hs : wr.heap.size ≤ W5.heap.size := by have := hg.size; simp at this; omega
  have hss : (W5.setCell ⟨p, 0, none⟩ (.slice (some ⟨g, 0, none⟩) (i + 1) cap)).heap.size = W5.heap.size := by simp [World.setCell]
  refine ⟨blk_set (o := 0) e1 _, ?_, fun k hk hkp => ?_, ?_, by omega⟩
  · have et : (L.take (i + 1)).map Value.string = (L.take i).map Value.string ++ [.string (L.getD i ⟨#[]⟩)] := by
      rw [List.take_succ_eq_append_getElem hi, List.map_append, show L.getD i ⟨#[]⟩ = L[i] by simp [List.getD, hi]]; rfl
    rw [et]
    refine own_keep (p := p) ho (fun k o' hk hkp => (Below.heap_setCell _ ⟨p, 0, none⟩ _ k hkp).trans hk) hp
  · refine (Below.heap_setCell _ ⟨p, 0, none⟩ _ k hkp).trans ((hg.block k (by simp; omega) (fun e => ?_)).trans ((Below.heap_alloc wr o k (by omega)).trans (h3 k hk hkp)))
    have := (h2.lt k e.symm).1; omega
  · exact ((h4.alloc (by have := h4.size; omega) o).grown hg (by simp; have := h4.size; omega) (fun j hj => by have := (h2.lt j hj).1; omega)).setCell (p := ⟨p, 0, none⟩) hwp _
set_option maxRecDepth 100000 in
set_option maxHeartbeats 8000000 in
theorem rclose_any (t : T) (lc : List Pr) (L : List ByteArray) (hL : fvs [] [] (t :: lc.map (·.2)) = L) (hLn : L.length ≤ 1000000) (hs : tsizes (t :: lc.map (·.2)) ≤ 1000000000) (ta va : Option Addr) (tc vc : Nat) (w : World) (ht : TysAt w (.slice ta t.kids.length tc) t.kids) (hP : PrsAt w (.slice va lc.length vc) lc) (hn : lc.length ≤ 1000000) :
    Calls Tryd.prog 13 #[.slice va lc.length vc, .agg #[.int .i64 t.kind, .string t.name, .slice ta t.kids.length tc], .slice none 0 0] w fun e w' =>
      (∃ xa xc, e = .returned (.agg #[.slice xa L.length xc, .slice va lc.length vc, .int .i64 t.kind, .string t.name, .slice ta t.kids.length tc]) ∧ TextsAt w' (.slice xa L.length xc) L) ∧ Below w.heap.size w w' := by
  obtain ⟨i0, hi, hz0, hz1, hz2⟩ := info_parts Tryd.infoStrC
  have HB3 := Lib.hid (fun o1 o2 o3 => below_three w o1 o2 o3)
  have HN3 := Lib.hid (fun o1 o2 o3 => new_three w o1 o2 o3)
  have HT := Lib.hid ht; have HP := Lib.hid hP; have HL := Lib.hid hL; have HS := Lib.hid hs
  clear ht hP hL hs
  go_enter Tryd.func13, Tryd.ntmps13
  go_wp2_with (go_at_call 32; fail)
  have hb0 := HB3.out (.cells #[.int .i64 t.kind, .string t.name, .slice ta t.kids.length tc] 33) (.cells #[.slice none 0 0, .slice none 0 0, .int .i64 0, .string ⟨#[]⟩, .slice none 0 0] 42) (.cells #[.slice none 0 0, .slice va lc.length vc, .int .i64 t.kind, .string t.name, .slice ta t.kids.length tc] 42)
  obtain ⟨n1, n2, n3⟩ := HN3.out (.cells #[.int .i64 t.kind, .string t.name, .slice ta t.kids.length tc] 33) (.cells #[.slice none 0 0, .slice none 0 0, .int .i64 0, .string ⟨#[]⟩, .slice none 0 0] 42) (.cells #[.slice none 0 0, .slice va lc.length vc, .int .i64 t.kind, .string t.name, .slice ta t.kids.length tc] 42)
  refine (rallc_any t lc ta va tc vc _ (HT.out.keep (KeepT.of_below hb0)) (HP.out.keep (KeepT.of_below hb0) (KeepP.of_below hb0)) hn).mono ?_
  rintro e w1 ⟨⟨aa, ac, rfl, ht1⟩, hb1⟩
  have HZ1 := Lib.hid (And.intro hb0 (And.intro hb1 (And.intro n2 n3)))
  have hT1 := rVars_any (t :: lc.map (·.2)) HS.out aa ac w1 (by simpa using ht1)
  simp only [List.length_cons, List.length_map] at hT1
  have HT1 := Lib.hid hT1
  clear hb0 hb1 n1 n2 n3 ht1 hT1
  go_wp2_with (go_at_call 31; fail)
  refine HT1.out.mono ?_
  rintro e W2 ⟨⟨v, rfl, hv⟩, hb2⟩
  rw [HL.out] at hv
  obtain ⟨la, ld, rfl⟩ := hv.shape
  have hq2 := HZ1.out.2.1.size
  have hq3 := hb2.size
  have hq1 : w.heap.size + 1 + 1 + 1 ≤ w1.heap.size := by simpa using hq2
  have hbx := (hb2.block _ (show w.heap.size + 1 + 1 < w1.heap.size by omega)).trans ((HZ1.out.2.1.block (w.heap.size + 1 + 1) (by simp)).trans HZ1.out.2.2.2)
  have hbz := (hb2.block _ (show w.heap.size + 1 < w1.heap.size by omega)).trans ((HZ1.out.2.1.block (w.heap.size + 1) (by simp)).trans HZ1.out.2.2.1)
  have HZ := Lib.hid hbz
  have HX := Lib.hid hv
  have HX2 := Lib.hid hv.strs
  have HI := Lib.hid (show CLI (w.heap.size + 1 + 1) w W2 (.slice va lc.length vc) (.int .i64 t.kind) (.string t.name) (.slice ta t.kids.length tc) L 0 (.slice none 0 0) W2 from ⟨hbx, World.ownsRow_nil _ _ _ _, fun _ _ _ => rfl, HZ1.out.1.trans ((HZ1.out.2.1.trans (hb2.mono hq2)).mono (by simp; omega)), Nat.le_refl _⟩)
  have HXp := Lib.hid hbx
  have hp2 : w.heap.size + 1 + 1 < W2.heap.size := by omega
  clear hv hb2 hbx hbz HZ1 HT1 HB3 HN3 HT HP HS HL hq2 hq3 hq1
  go_wp2
  go_loopw [9] (fun vi wr => ∃ (i d : Nat) (b : Option Addr), i ≤ L.length ∧ vi = .int .i64 i ∧ Hid (CLI (w.heap.size + 1 + 1) w W2 (.slice va lc.length vc) (.int .i64 t.kind) (.string t.name) (.slice ta t.kids.length tc) L i (.slice b i d) wr)) (fun vi _ => L.length - (intOf vi).toNat)
  case atStart => exact ⟨0, 0, none, Nat.zero_le _, rfl, HI⟩
  case round =>
    obtain ⟨i, d, b, hi', rfl, hI⟩ := hrel
    clear HI
    by_cases hlt : i < L.length
    · obtain ⟨gL, oL, rfl, lL, cL⟩ := HX2.out.at (by omega)
      have hneL : gL ≠ w.heap.size + 1 + 1 := fun e => by
        obtain ⟨a', cap', e', hh⟩ := HX.out
        rcases hh with hh | ⟨g, eg, _, cs, fz, hg, _⟩
        · rw [hh] at hlt; exact absurd hlt (Nat.not_lt_zero _)
        · have : g = gL := by have := congrArg (fun v => match v with | Value.slice (some a) _ _ => a.block | _ => 0) e'; rw [eg] at this; exact this.symm
          subst this
          rw [e, HXp.out] at hg
          simp at hg
      have xL : wr.cell? ⟨gL, oL + i, none⟩ = some (.string (L.getD i ⟨#[]⟩)) := (World.cell?_of_block (a := ⟨gL, oL + i, none⟩) (hI.out.2.2.1 gL lL hneL)).trans (cL i hlt)
      have HSt := Lib.hid (fun (o : Obj) (W5 : World) (g cap : Nat) => hI.out.step (o := o) (W5 := W5) (g := g) (cap := cap) hp2 (by omega) hlt)
      obtain ⟨x0, x1, x2, x3, x4⟩ := cells5 hI.out.1
      have hz := hI.out.2.2.2.2
      have hbl : gL < wr.heap.size := by omega
      have hpl : w.heap.size + 1 + 1 < wr.heap.size := by omega
      have HR := Lib.hid hI.out.2.1
      have HBx := Lib.hid hI.out.1
      have hlI : (i : Int) < (L.length : Int) := by omega
      clear cL
      generalize L.getD i ⟨#[]⟩ = f at *
      have hHas : ∀ W, Calls Tryd.prog 15 #[.slice none 0 0, .string f] W fun e w' => e = .returned (.bool false) ∧ W = w' := fun W => hasR_any [] (by decide) f none 0 W ⟨none, 0, rfl, .inl rfl⟩
      have HHas := Lib.hid hHas
      clear hHas
      go_wp2_with (go_at_call 15; refine (HHas.out _).mono ?_; rintro e w' ⟨rfl, rfl⟩)
      go_region_law (refine step_append_lies _ (by rfl) _ _ _ (by rfl) W2.heap.size 9 i0 (.string ⟨#[]⟩) 1 16 Tryd.underlying40 hi hz0 hz1 hz2 rfl (by decide) _ _ _ (by rfl) (own_drew (HR.out.alloc _)) ⟨wr.heap.size, 0, none⟩ 1 1 [.string f] (by rfl) rfl (frz_one _ _ _) (by simp [Value.oneCell']) (by decide) (by unfold maxLen; omega) (by omega) (by simp; omega) _ rfl ?_; intro g cap W5 hown5 hgrow _ _; have HO5 := Lib.hid hown5; have HG5 := Lib.hid (show (wr.alloc _).grownBy W5 (Value.slice b i d).ownBlock from ⟨hgrow.os, hgrow.tape, hgrow.output, hgrow.size, hgrow.block⟩); have hx5 := (HG5.out.block (w.heap.size + 1 + 1) (by simp; omega) (fun e => by have := (HR.out.lt _ e.symm).1; omega)).trans ((Below.heap_alloc wr _ _ hpl).trans HBx.out); obtain ⟨y0, y1, y2, y3, y4⟩ := cells5 hx5; have fy := Lib.frozen_of_heap hx5 0; clear hown5 hgrow hx5)
      all_goals go_wp2
      all_goals
        go_roundw
        case rel => exact ⟨i + 1, _, _, by omega, by go_num, Lib.hid (HSt.out _ _ _ _ HG5.out HO5.out)⟩
        case measure => simp [intOf]; omega
    · obtain rfl : i = L.length := by omega
      have hz1' := (hI.out.2.2.1 (w.heap.size + 1) (by omega) (by omega)).trans HZ.out
      obtain ⟨x0, x1, x2, x3, x4⟩ := cells5 hI.out.1
      obtain ⟨u0, u1, u2, u3, u4⟩ := cells5 hz1'
      have f0 := Lib.frozen_of_heap hz1' 0
      have f1 := Lib.frozen_of_heap hz1' 1
      have f2 := Lib.frozen_of_heap hz1' 2
      have f3 := Lib.frozen_of_heap hz1' 3
      have f4 := Lib.frozen_of_heap hz1' 4
      have HZ4 := Lib.hid hz1'
      clear hz1'
      go_wp2
      have hc := cells5 (set5_block HZ4.out (.slice b L.length d) (.slice va lc.length vc) (.int .i64 t.kind) (.string t.name) (.slice ta t.kids.length tc))
      unfold set5 at hc
      have hrow := hI.out.2.1
      rw [List.take_length] at hrow
      have hT := (TextsAt.of_row hrow).keep (w' := set5 wr (w.heap.size + 1) (.slice b L.length d) (.slice va lc.length vc) (.int .i64 t.kind) (.string t.name) (.slice ta t.kids.length tc)) fun k cs fz hk => (set5_other _ _ _ _ _ _ _ (fun e => by subst e; rw [HZ4.out] at hk; simp at hk)).trans hk
      have hB := below_set5 hI.out.2.2.2.1 (show w.heap.size ≤ w.heap.size + 1 by omega) (.slice b L.length d) (.slice va lc.length vc) (.int .i64 t.kind) (.string t.name) (.slice ta t.kids.length tc)
      exact bodyPost_ret (v := .agg #[.slice b L.length d, .slice va lc.length vc, .int .i64 t.kind, .string t.name, .slice ta t.kids.length tc]) (by simp [results, Tryd.results13, go_sem, hc.1, hc.2.1, hc.2.2.1, hc.2.2.2.1, hc.2.2.2.2]) rfl ⟨⟨_, _, rfl, hT⟩, hB⟩
end Go.Proofs.YtjnlchhikdfifaaDoor
/- scheme.Fresh. -/
namespace Go.Proofs.YtjnlchhikdfifaaDoor
open Go.RowKit Go.Sort Go.Lib
attribute [local go_sem] Oper.semAt_some

/-- The name of a number. -/
def qn (u : Nat) : ByteArray := ⟨#[63]⟩ ++ ⟨(Lib.decDigits u).toArray⟩
def Tab (w : World) : Prop := Lib.TabIs Tryd.prog w "internal/strconv.uint64pow10" .u64 Lib.pow10Tab
theorem Tab.below {w w' : World} (h : Tab w) (hb : Below w.heap.size w w') : Tab w' := by
  have hg : Tryd.prog.globalNamed "internal/strconv.uint64pow10" = some 0 := by kernel_rfl
  unfold Tab Lib.TabIs World.var? at *
  simp only [hg, Option.bind_some] at h ⊢
  by_cases hl : 0 < w.heap.size
  · rw [hb.block _ hl]; exact h
  · rw [Array.getElem?_eq_none (by omega)] at h; simp at h
theorem dec_len (u : Nat) (h : u < 18446744073709551616) : (Lib.decDigits u).length ≤ 20 := by
  rw [Lib.decDigits_length]
  by_cases h1 : 1 ≤ u
  · have := Lib.numDigits_eq u h1 h
    split at this <;> omega
  · obtain rfl : u = 0 := by omega
    rw [← Lib.decDigits_length, Lib.decDigits]; simp
set_option maxRecDepth 100000 in
set_option maxHeartbeats 4000000 in
theorem numbered_any (z i : Nat) (hz : z + i < 1000000) (w : World) (ht : Tab w) :
    Calls Tryd.prog 33 #[.int .i64 (z : Int), .int .i64 (i : Int)] w fun e w' => e = .returned (.string (qn (z + i))) ∧ Below w.heap.size w w' := by
  have h1 : IntKind.u64.wrap (z : Int) = (z : Int) := by rw [IntKind.wrap_u64]; omega
  have h2 : IntKind.u64.wrap (i : Int) = (i : Int) := by rw [IntKind.wrap_u64]; omega
  have h3 : IntKind.u64.wrap ((z : Int) + (i : Int)) = ((z + i : Nat) : Int) := by rw [IntKind.wrap_u64]; omega
  have h4 : ¬ ((z : Int) < 0) := by omega
  have HF := Lib.hid (funum_any (z + i) (by omega) w ht)
  clear ht
  go_enter Tryd.func33, Tryd.ntmps33
  go_wp2_with (go_at_call 46; fail)
  refine (show Calls Tryd.prog 46 #[.int .u64 ((z + i : Nat) : Int), .int .i64 10] w fun e w' => e = .returned (.string ⟨(Lib.decDigits (z + i)).toArray⟩) ∧ Below w.heap.size w w' from by
    clear h1 h2 h3 h4
    generalize z + i = u at *
    go_enter Tryd.func46, Tryd.ntmps46
    go_wp2_with (go_at_call 67; refine HF.out.mono ?_; rintro e w' ⟨rfl, hb⟩)
    go_ret
    exact ⟨rfl, hb⟩).mono ?_
  rintro e w' ⟨rfl, hb⟩
  have HB := Lib.hid hb
  clear hb HF
  have hdl : ¬ 9223372036854775807 < 1 + (Lib.decDigits (z + i)).length := by have := dec_len (z + i) (by omega); omega
  go_wp2
  go_ret
  exact ⟨rfl, HB.out⟩
def zerosS (n : Nat) : Array Value := Builtin.zeroCells (Value.string ⟨#[]⟩).cells n
theorem zerosS_size (n : Nat) : (zerosS n).size = n := by unfold zerosS; rw [size_zeroCells]; simp [Value.cells]
theorem make_rowS (n : Nat) (hn : n ≤ 1000000) (w : World) :
    (Instr.makeSlice 40 (.int .i64 (n : Int)) (.int .i64 (n : Int))).run Tryd.prog w = .ok (.slice (some ⟨w.heap.size, 0, none⟩) n n) (w.alloc (.cells (zerosS n) 9)) := by
  obtain ⟨i, hi, hzz⟩ := Option.map_eq_some_iff.1 Tryd.infoStrC
  simp only [Prod.mk.injEq] at hzz
  obtain ⟨hz, hs, hb⟩ := hzz
  have hr := run_make (P := Tryd.prog) w 40 9 i _ Tryd.underlying40 hi hz .i64 .i64 n n (by omega) (Int.le_refl _) (by rw [hb]; omega) (by omega)
  simp only [Int.toNat_natCast, hs] at hr
  exact hr
/-- The first i names are there. -/
def NamesI (g n z i : Nat) (w : World) : Prop := ∃ cs : Array Value, w.heap[g]? = some (.cells cs 9 (0, 0)) ∧ cs.size = n ∧ ∀ j, j < i → cs[j]? = some (.string (qn (z + j)))
theorem NamesI.below {g n z i : Nat} {w w' : World} (h : NamesI g n z i w) (hb : Below w.heap.size w w') : NamesI g n z i w' := by
  obtain ⟨cs, h1, h2⟩ := h; exact ⟨cs, (hb.block g (Array.getElem?_eq_some_iff.1 h1).1).trans h1, h2⟩
theorem NamesI.cell {g n z i : Nat} {w : World} (h : NamesI g n z i w) {k : Nat} (hk : k < n) : (∃ v, w.cell? ⟨g, k, none⟩ = some v) ∧ w.frozen? ⟨g, k, none⟩ = false ∧ g < w.heap.size := by
  obtain ⟨cs, h1, h2, _⟩ := h
  refine ⟨⟨cs[k]'(by omega), ?_⟩, Lib.frozen_of_heap h1 k, (Array.getElem?_eq_some_iff.1 h1).1⟩
  rw [Lib.cell_of_heap h1]
  exact Array.getElem?_eq_getElem (by omega)
theorem NamesI.next {g n z i : Nat} {w : World} (h : NamesI g n z i w) (hi : i < n) : NamesI g n z (i + 1) (w.setCell ⟨g, i, none⟩ (.string (qn (z + i)))) := by
  obtain ⟨cs, h1, h2, h3⟩ := h
  refine ⟨cs.setIfInBounds i (.string (qn (z + i))), blk_set (o := i) h1 _, by simpa using h2, fun j hj => ?_⟩
  by_cases e : j = i
  · subst e; simp [h2, hi]
  · rw [Array.getElem?_setIfInBounds_ne (Ne.symm e)]; exact h3 j (by omega)
theorem NamesI.texts {g z : Nat} {G : List ByteArray} {w : World} (h : NamesI g G.length z G.length w) (hG : ∀ j (hj : j < G.length), G[j] = qn (z + j)) : TextsAt w (.slice (some ⟨g, 0, none⟩) G.length G.length) G := by
  obtain ⟨cs, h1, h2, h3⟩ := h
  exact ⟨_, _, rfl, .inr ⟨g, rfl, Nat.le_refl _, cs, _, h1, fun i hi => by rw [h3 i hi, hG i hi]⟩⟩
set_option maxRecDepth 100000 in
set_option maxHeartbeats 8000000 in
theorem fresh_any (t : T) (F G : List ByteArray) (z : Nat) (hz : z < 100000) (hGl : G.length = F.length) (hG : ∀ j (hj : j < G.length), G[j] = qn (z + j)) (hl : F.length < 20) (hsz : tsize t ≤ 1000000000) (lc : List Pr) (hq : ∀ q ∈ lc, tsize q.2 ≤ 1000000000) (hcn : lc.length ≤ 1000000) (xa ta fa : Option Addr) (xc tc fc : Nat) (w : World)
    (ht : TysAt w (.slice ta t.kids.length tc) t.kids) (hF : TextsAt w (.slice fa F.length fc) F) (hP : PrsAt w (.slice xa lc.length xc) lc) (hT : Tab w) :
    Calls Tryd.prog 14 #[.agg #[.slice fa F.length fc, .slice xa lc.length xc, .int .i64 t.kind, .string t.name, .slice ta t.kids.length tc], .int .i64 (z : Int)] w fun e w' =>
      (∃ ga gc pa pc za zc, e = .returned (.tuple #[.agg #[.slice ga F.length gc, .slice pa lc.length pc, .int .i64 (app (prs F G) t).kind, .string (app (prs F G) t).name, .slice za (app (prs F G) t).kids.length zc], .int .i64 ((z : Int) + (F.length : Int))]) ∧ TextsAt w' (.slice ga F.length gc) G ∧ PrsAt w' (.slice pa lc.length pc) (appP (prs F G) lc) ∧ TysAt w' (.slice za (app (prs F G) t).kids.length zc) (app (prs F G) t).kids) ∧ Below w.heap.size w w' := by
  have hmk := make_rowS F.length (by omega)
  have HT := Lib.hid ht; have HF := Lib.hid hF; have HP := Lib.hid hP; have HTab := Lib.hid hT; have HG := Lib.hid hG; have HGl := Lib.hid hGl; have HQ := Lib.hid hq
  have HB3 := Lib.hid (fun o1 o2 o3 => below_three w o1 o2 o3)
  have HN3 := Lib.hid (fun o1 o2 o3 => new_three w o1 o2 o3)
  clear ht hF hP hT hG hGl hq
  go_enter Tryd.func14, Tryd.ntmps14
  go_wp2
  go_loopw [14] (fun vi wr => ∃ i : Nat, i ≤ F.length ∧ vi = .int .i64 i ∧ Hid (NamesI (w.heap.size + 1 + 1) F.length z i wr) ∧ Hid (Below w.heap.size w wr) ∧
    Hid (wr.heap[w.heap.size]? = some (.cells #[.slice fa F.length fc, .slice xa lc.length xc, .int .i64 t.kind, .string t.name, .slice ta t.kids.length tc] 42 (0, 0)) ∧ wr.heap[w.heap.size + 1]? = some (.cells #[.slice none 0 0, .slice none 0 0, .int .i64 0, .string ⟨#[]⟩, .slice none 0 0] 42 (0, 0)))) (fun vi _ => F.length - (intOf vi).toNat)
  case atStart =>
    obtain ⟨n1, n2, n3⟩ := HN3.out (.cells #[.slice fa F.length fc, .slice xa lc.length xc, .int .i64 t.kind, .string t.name, .slice ta t.kids.length tc] 42) (.cells #[.slice none 0 0, .slice none 0 0, .int .i64 0, .string ⟨#[]⟩, .slice none 0 0] 42) (.cells (zerosS F.length) 9)
    exact ⟨0, Nat.zero_le _, rfl, Lib.hid ⟨_, n3, zerosS_size _, fun j hj => absurd hj (Nat.not_lt_zero _)⟩, Lib.hid (HB3.out _ _ _), Lib.hid ⟨n1, n2⟩⟩
  case round =>
    obtain ⟨i, hi, rfl, hN, hB, hbx⟩ := hrel
    by_cases hlt : i < F.length
    · have hltI : (i : Int) < (F.length : Int) := by omega
      have HNu := Lib.hid (numbered_any z i (by omega) wr (HTab.out.below (hB.out.mono (Nat.le_refl _))))
      clear hmk
      go_wp2_with (go_at_call 33; fail)
      refine HNu.out.mono ?_
      rintro e w4 ⟨rfl, hb4⟩
      have hN4 := hN.out.below hb4
      obtain ⟨⟨v0, hc0⟩, hf0, hl0⟩ := hN4.cell hlt
      have HNx := Lib.hid (hN4.next hlt)
      have hB4 := hB.out.trans (hb4.mono hB.out.size)
      have HBx := Lib.hid (hB4.setCell (p := ⟨w.heap.size + 1 + 1, i, none⟩) (by simp; omega) (.string (qn (z + i))))
      have hl2 : w.heap.size + 1 < wr.heap.size := (Array.getElem?_eq_some_iff.1 hbx.out.2).1
      have Hbx := Lib.hid (And.intro ((Below.heap_setCell w4 ⟨w.heap.size + 1 + 1, i, none⟩ (.string (qn (z + i))) w.heap.size (by simp; omega)).trans ((hb4.block _ (by omega)).trans hbx.out.1)) ((Below.heap_setCell w4 ⟨w.heap.size + 1 + 1, i, none⟩ (.string (qn (z + i))) (w.heap.size + 1) (by simp)).trans ((hb4.block _ hl2).trans hbx.out.2)))
      clear hN4 hb4 hB4 HNu
      go_wp2
      go_roundw
      case rel => exact ⟨i + 1, by omega, by go_num, HNx, HBx, Hbx⟩
      case measure => simp [intOf]; omega
    · obtain rfl : i = F.length := by omega
      have hTx := NamesI.texts (G := G) (z := z) (g := w.heap.size + 1 + 1) (w := wr) (by rw [HGl.out]; exact hN.out) HG.out
      rw [HGl.out] at hTx
      have hk := KeepT.of_below hB.out
      have hR := fren_any t F G HGl.out.symm hl hsz lc HQ.out hcn (.slice fa F.length fc) xa ta fa (some ⟨w.heap.size + 1 + 1, 0, none⟩) xc tc fc F.length wr (HT.out.keep hk) (HF.out.below hB.out).strs (by have := hTx.strs; rw [HGl.out]; exact this) (HP.out.keep hk (KeepP.of_below hB.out))
      rw [HGl.out] at hR
      have HR := Lib.hid hR
      have HTx := Lib.hid hTx
      obtain ⟨x0, x1, x2, x3, x4⟩ := cells5 hbx.out.1
      clear hR hTx hk hN hmk HB3 HN3
      go_wp2_with (go_at_call 34; fail)
      refine HR.out.mono ?_
      rintro e w4 ⟨⟨pa, pc, za, zc, rfl, hp4, ht4⟩, hb4⟩
      have hl2 : w.heap.size + 1 < wr.heap.size := (Array.getElem?_eq_some_iff.1 hbx.out.2).1
      have hz4 := (hb4.block _ hl2).trans hbx.out.2
      obtain ⟨u0, u1, u2, u3, u4⟩ := cells5 hz4
      have f0 := Lib.frozen_of_heap hz4 0
      have f1 := Lib.frozen_of_heap hz4 1
      have f2 := Lib.frozen_of_heap hz4 2
      have f3 := Lib.frozen_of_heap hz4 3
      have f4 := Lib.frozen_of_heap hz4 4
      have hoth := fun k cs T (fz : Nat × Nat) (hT : T ≠ 42) (hk : w4.heap[k]? = some (.cells cs T fz)) => (set5_other w4 (w.heap.size + 1) (.slice (some ⟨w.heap.size + 1 + 1, 0, none⟩) F.length F.length) (.slice pa lc.length pc) (.int .i64 (app (prs F G) t).kind) (.string (app (prs F G) t).name) (.slice za (app (prs F G) t).kids.length zc) (k := k) (fun e => by subst e; rw [hz4] at hk; simp at hk; exact hT hk.2.1.symm)).trans hk
      have HEnd := Lib.hid (And.intro ((HTx.out.below hb4).keep fun k cs fz hk => hoth k cs _ fz (by decide) hk) (And.intro (hp4.keep (fun k cs fz hk => hoth k cs _ fz (by decide) hk) (fun k cs fz hk => hoth k cs _ fz (by decide) hk)) (And.intro (ht4.keep (fun k cs fz hk => hoth k cs _ fz (by decide) hk)) (below_set5 (hB.out.trans (hb4.mono hB.out.size)) (show w.heap.size ≤ w.heap.size + 1 by omega) (.slice (some ⟨w.heap.size + 1 + 1, 0, none⟩) F.length F.length) (.slice pa lc.length pc) (.int .i64 (app (prs F G) t).kind) (.string (app (prs F G) t).name) (.slice za (app (prs F G) t).kids.length zc)))))
      have hc := cells5 (set5_block hz4 (.slice (some ⟨w.heap.size + 1 + 1, 0, none⟩) F.length F.length) (.slice pa lc.length pc) (.int .i64 (app (prs F G) t).kind) (.string (app (prs F G) t).name) (.slice za (app (prs F G) t).kids.length zc))
      clear hp4 ht4 hb4 hoth HR HTx hbx hB
      go_wp2
      unfold set5 at hc
      exact bodyPost_ret (v := .tuple #[.agg #[.slice (some ⟨w.heap.size + 1 + 1, 0, none⟩) F.length F.length, .slice pa lc.length pc, .int .i64 (app (prs F G) t).kind, .string (app (prs F G) t).name, .slice za (app (prs F G) t).kids.length zc], .int .i64 ((z : Int) + (F.length : Int))]) (by simp [results, Tryd.results14, go_sem, hc.1, hc.2.1, hc.2.2.1, hc.2.2.2.1, hc.2.2.2.2]) rfl ⟨⟨_, _, _, _, _, _, rfl, HEnd.out.1, HEnd.out.2.1, HEnd.out.2.2.1⟩, HEnd.out.2.2.2⟩
end Go.Proofs.YtjnlchhikdfifaaDoor
/- scheme: its last statement, a region of 9 operations that draws its order, by an invariant. (Made by a program.) -/
namespace Go.Proofs.YtjnlchhikdfifaaDoor
open Go.RowKit Go.Sort Go.Lib
attribute [local go_sem] Oper.semAt_some

def sclFr (b : Nat → Value) (d : List Deferred) (x : Nat → Value) : Act := { tmps := #[b 0, b 1, b 2, b 3, b 4, b 5, b 6, b 7, b 8, b 9, b 10, b 11, b 12, b 13, b 14, b 15, b 16, b 17, b 18, x 0, x 1, x 2, x 3, x 4, x 5, x 6, x 7], defers := d }

def sclVals (xa ta : Option Addr) (xc tc : Nat) (t : T) (ga : Option Addr) (gn gc : Nat) (i : Nat) (v : Value) (V : World) : Prop :=
  match i with
  | 0 => v = .slice ga gn gc
  | 1 => v = .agg #[.slice none 0 0]
  | 2 => v = .slice xa 0 xc
  | 3 => ∃ zp, v = .slice (some zp) 0 0 ∧ True
  | 4 => v = .agg #[.slice none 0 0]
  | 5 => v = .agg #[.int .i64 (t).kind, .string (t).name, .slice ta (t).kids.length tc]
  | 6 => ∃ za zc, v = .agg #[.int .i64 (t).kind, .string (t).name, .slice za (t).kids.length zc] ∧ TysAt V (.slice za t.kids.length zc) t.kids
  | 7 => ∃ zp za zc, v = .agg #[.slice ga gn gc, .slice (some zp) 0 0, .int .i64 t.kind, .string t.name, .slice za t.kids.length zc] ∧ TysAt V (.slice za t.kids.length zc) t.kids
  | _ => True

theorem sclVals_keep {xa ta : Option Addr} {xc tc : Nat} {t : T} {ga : Option Addr} {gn gc : Nat} (i : Nat) (v : Value) (V Y : World) (h : sclVals xa ta xc tc t ga gn gc i v V) (hb : Below V.heap.size V Y) : sclVals xa ta xc tc t ga gn gc i v Y := by
  unfold sclVals at *
  split at h <;> first
    | exact h
    | (obtain ⟨zp, e, h⟩ := h; exact ⟨zp, e, h⟩)
    | (obtain ⟨za, zc, e, h⟩ := h; exact ⟨za, zc, e, h.keep (KeepT.of_below hb)⟩)
    | (obtain ⟨zp, za, zc, e, h⟩ := h; exact ⟨zp, za, zc, e, h.keep (KeepT.of_below hb)⟩)

end Go.Proofs.YtjnlchhikdfifaaDoor
/- scheme: its last statement, a region of 13 operations that draws its order, by an invariant. (Made by a program.) -/
namespace Go.Proofs.YtjnlchhikdfifaaDoor
open Go.RowKit Go.Sort Go.Lib
attribute [local go_sem] Oper.semAt_some

def sfrFr (b : Nat → Value) (d : List Deferred) (x : Nat → Value) : Act := { tmps := #[b 0, b 1, b 2, x 11, x 12, x 8, x 0, x 1, x 2, x 3, x 4, x 5, x 6, x 7, x 9, x 10, b 16], defers := d }

def sfrVals (b1 : Nat) (xa ca ta : Option Addr) (xc cc tc : Nat) (xs : List ByteArray) (t : T) (i : Nat) (v : Value) (V : World) : Prop :=
  match i with
  | 0 => v = .pointer (some ⟨b1, 1, none⟩)
  | 1 => v = .slice ca 0 cc
  | 2 => v = .pointer (some ⟨b1, 2, none⟩)
  | 3 => v = .agg #[.int .i64 (t).kind, .string (t).name, .slice ta (t).kids.length tc]
  | 4 => ∃ za zc, v = .slice za (fvs [] [] [t]).length zc ∧ TextsAt V (.slice za (fvs [] [] [t]).length zc) (fvs [] [] [t])
  | 5 => v = .pointer (some ⟨b1, 0, none⟩)
  | 6 => v = .slice xa xs.length xc
  | 7 => ∃ zi zp zo zq, v = .tuple #[.slice zi ((fvs [] [] [t]).filter (inB xs)).length zp, .slice zo ((fvs [] [] [t]).filter fun n => !inB xs n).length zq] ∧ (TextsAt V (.slice zi ((fvs [] [] [t]).filter (inB xs)).length zp) ((fvs [] [] [t]).filter (inB xs)) ∧ TextsAt V (.slice zo ((fvs [] [] [t]).filter fun n => !inB xs n).length zq) ((fvs [] [] [t]).filter fun n => !inB xs n))
  | 8 => ∃ zi zp zo zq, v = .tuple #[.slice zi ((fvs [] [] [t]).filter (inB xs)).length zp, .slice zo ((fvs [] [] [t]).filter fun n => !inB xs n).length zq] ∧ (TextsAt V (.slice zi ((fvs [] [] [t]).filter (inB xs)).length zp) ((fvs [] [] [t]).filter (inB xs)) ∧ TextsAt V (.slice zo ((fvs [] [] [t]).filter fun n => !inB xs n).length zq) ((fvs [] [] [t]).filter fun n => !inB xs n))
  | 9 => ∃ zi zp, v = .slice zi ((fvs [] [] [t]).filter (inB xs)).length zp ∧ TextsAt V (.slice zi ((fvs [] [] [t]).filter (inB xs)).length zp) ((fvs [] [] [t]).filter (inB xs))
  | 10 => ∃ zo zq, v = .slice zo ((fvs [] [] [t]).filter fun n => !inB xs n).length zq ∧ TextsAt V (.slice zo ((fvs [] [] [t]).filter fun n => !inB xs n).length zq) ((fvs [] [] [t]).filter fun n => !inB xs n)
  | 11 => ∃ zi zp, v = .slice zi ((fvs [] [] [t]).filter (inB xs)).length zp ∧ TextsAt V (.slice zi ((fvs [] [] [t]).filter (inB xs)).length zp) ((fvs [] [] [t]).filter (inB xs))
  | 12 => ∃ zo zq, v = .slice zo ((fvs [] [] [t]).filter fun n => !inB xs n).length zq ∧ TextsAt V (.slice zo ((fvs [] [] [t]).filter fun n => !inB xs n).length zq) ((fvs [] [] [t]).filter fun n => !inB xs n)
  | _ => True

theorem sfrVals_keep {b1 : Nat} {xa ca ta : Option Addr} {xc cc tc : Nat} {xs : List ByteArray} {t : T} (i : Nat) (v : Value) (V Y : World) (h : sfrVals b1 xa ca ta xc cc tc xs t i v V) (hb : Below V.heap.size V Y) : sfrVals b1 xa ca ta xc cc tc xs t i v Y := by
  unfold sfrVals at *
  split at h <;> first
    | exact h
    | (obtain ⟨za, zc, e, h⟩ := h; exact ⟨za, zc, e, h.below hb⟩)
    | (obtain ⟨zi, zp, zo, zq, e, h⟩ := h; exact ⟨zi, zp, zo, zq, e, ⟨h.1.below hb, h.2.below hb⟩⟩)
    | (obtain ⟨zi, zp, e, h⟩ := h; exact ⟨zi, zp, e, h.below hb⟩)
    | (obtain ⟨zo, zq, e, h⟩ := h; exact ⟨zo, zq, e, h.below hb⟩)

end Go.Proofs.YtjnlchhikdfifaaDoor
/- scheme.rename: its last statement, a region of 11 operations that draws its order, by an invariant. (Made by a program.) -/
namespace Go.Proofs.YtjnlchhikdfifaaDoor
open Go.RowKit Go.Sort Go.Lib
attribute [local go_sem] Oper.semAt_some

noncomputable def srnOps : Array Oper := regionIn 8 (Tryd.f34.body.getD .skip)
def srnFr (b : Nat → Value) (d : List Deferred) (x : Nat → Value) : Act := { tmps := #[b 0, b 1, b 2, b 3, b 4, b 5, b 6, b 7, b 8, b 9, b 10, b 11, b 12, b 13, b 14, b 15, b 16, b 17, b 18, b 19, b 20, b 21, b 22, b 23, b 24, b 25, b 26, b 27, b 28, b 29, b 30, b 31, b 32, b 33, x 0, x 1, x 2, x 3, x 4, x 5, x 6, x 7, x 8, x 9], defers := d }

def srnVals (b3 : Nat) (xa ta sa : Option Addr) (xc tc sc : Nat) (t : T) (l : List PR) (ga : Option Addr) (gn gc : Nat) (i : Nat) (v : Value) (V : World) : Prop :=
  match i with
  | 0 => v = .slice ga gn gc
  | 1 => v = .agg #[.slice sa l.length sc]
  | 2 => v = .pointer (some ⟨b3, 1, none⟩)
  | 3 => v = .slice xa 0 xc
  | 4 => ∃ zp, v = .slice (some zp) 0 0 ∧ True
  | 5 => v = .agg #[.slice sa l.length sc]
  | 6 => v = .pointer (some ⟨b3, 2, none⟩)
  | 7 => v = .agg #[.int .i64 (t).kind, .string (t).name, .slice ta (t).kids.length tc]
  | 8 => ∃ za zc, v = .agg #[.int .i64 (app l t).kind, .string (app l t).name, .slice za (app l t).kids.length zc] ∧ TysAt V (.slice za (app l t).kids.length zc) (app l t).kids
  | 9 => ∃ zp za zc, v = .agg #[.slice ga gn gc, .slice (some zp) 0 0, .int .i64 (app l t).kind, .string (app l t).name, .slice za (app l t).kids.length zc] ∧ TysAt V (.slice za (app l t).kids.length zc) (app l t).kids
  | _ => True

theorem srnVals_keep {b3 : Nat} {xa ta sa : Option Addr} {xc tc sc : Nat} {t : T} {l : List PR} {ga : Option Addr} {gn gc : Nat} (i : Nat) (v : Value) (V Y : World) (h : srnVals b3 xa ta sa xc tc sc t l ga gn gc i v V) (hb : Below V.heap.size V Y) : srnVals b3 xa ta sa xc tc sc t l ga gn gc i v Y := by
  unfold srnVals at *
  split at h <;> first
    | exact h
    | (obtain ⟨zp, e, h⟩ := h; exact ⟨zp, e, h⟩)
    | (obtain ⟨za, zc, e, h⟩ := h; exact ⟨za, zc, e, h.keep (KeepT.of_below hb)⟩)
    | (obtain ⟨zp, za, zc, e, h⟩ := h; exact ⟨zp, za, zc, e, h.keep (KeepT.of_below hb)⟩)

theorem srn_size : srnOps.size = 11 := by kernel_rfl
theorem srn_cov : covered srnOps 10 = true := by kernel_rfl
set_option linter.unusedSimpArgs false in
set_option maxRecDepth 100000 in
set_option maxHeartbeats 8000000 in
theorem srn_region {w : World} {b3 b6 b10 : Nat} {xv : Value} {xa ta sa ga : Option Addr} {xc tc sc gn gc : Nat} {t : T} {l : List PR} {b : Nat → Value} {d : List Deferred}
    (h2 : b 2 = .slice ga gn gc) (h3 : b 3 = .pointer (some ⟨b3, 0, none⟩)) (h6 : b 6 = .pointer (some ⟨b6, 0, none⟩)) (h10 : b 10 = .pointer (some ⟨b10, 0, none⟩))
    (HC4 : ∀ V, SR w b3 b6 b10 xv (.slice xa 0 xc) t ta tc sa sc l V → Calls Tryd.prog 23 #[.agg #[.slice sa l.length sc], .slice xa 0 xc] V fun e Y => (∃ zp, e = .returned (.slice (some zp) 0 0) ∧ True) ∧ Below V.heap.size V Y)
    (HC8 : ∀ V, SR w b3 b6 b10 xv (.slice xa 0 xc) t ta tc sa sc l V → Calls Tryd.prog 40 #[.agg #[.slice sa l.length sc], .agg #[.int .i64 (t).kind, .string (t).name, .slice ta (t).kids.length tc]] V fun e Y => (∃ za zc, e = .returned (.agg #[.int .i64 (app l t).kind, .string (app l t).name, .slice za (app l t).kids.length zc]) ∧ TysAt Y (.slice za (app l t).kids.length zc) (app l t).kids) ∧ Below V.heap.size V Y)
    {Q : Exit → Act → World → Prop} {ops : Array Oper} (hops : ops = srnOps) (x0 : Nat → Value) (X : World) (hS : SR w b3 b6 b10 xv (.slice xa 0 xc) t ta tc sa sc l X.drew)
    (hfin : ∀ (x : Nat → Value) V zp za zc, SR w b3 b6 b10 xv (.slice xa 0 xc) t ta tc sa sc l V → TysAt V (.slice za (app l t).kids.length zc) (app l t).kids → Q .normal (srnFr b d x) (set5 V b6 (.slice ga gn gc) (.slice (some zp) 0 0) (.int .i64 (app l t).kind) (.string (app l t).name) (.slice za (app l t).kids.length zc))) : (Code.region 8 ops true).wp Tryd.prog Q (srnFr b d x0) X := by
  have HC := Lib.hid (And.intro HC4 HC8)
  clear HC4 HC8
  have hszo : ops.size = 10 + 1 := by rw [hops]; exact srn_size
  have hcovo : covered ops 10 = true := by rw [hops]; exact srn_cov
  refine region_last (srnFr b d) (fun V => SR w b3 b6 b10 xv (.slice xa 0 xc) t ta tc sa sc l V) (fun V Y => Below V.heap.size V Y) (srnVals b3 xa ta sa xc tc sc t l ga gn gc) x0 10 (by kernel_rfl) rfl hS hszo hcovo (fun V Y h hb => h.below hb) (fun i v V Y _ h hb => srnVals_keep i v V Y h hb) ?_
  have HFIN := Lib.hid hfin
  clear hfin hS hszo hcovo
  obtain ⟨gl, hgl⟩ : ∃ qq, LastAt Tryd.prog (srnFr b d) (fun V => SR w b3 b6 b10 xv (.slice xa 0 xc) t ta tc sa sc l V) (srnVals b3 xa ta sa xc tc sc t l ga gn gc) ops Q 10 = qq := ⟨_, rfl⟩
  rw [hgl]
  obtain ⟨f, hf⟩ : ∃ qq, StepAt Tryd.prog (srnFr b d) (fun V => SR w b3 b6 b10 xv (.slice xa 0 xc) t ta tc sa sc l V) (fun V Y => Below V.heap.size V Y) (srnVals b3 xa ta sa xc tc sc t l ga gn gc) ops Q = qq := ⟨_, rfl⟩
  rw [hf, hops]
  simp only [srnOps, Tryd.f34, regionIn, Option.getD_some, Nat.reduceBEq, Bool.false_eq_true, if_false, if_true, beq_self_eq_true, Array.append_empty, Array.empty_append, List.append_eq, List.cons_append, List.nil_append, AllBut, Nat.reduceAdd, Nat.zero_add]
  -- 0: slot 34 := Op.move t2
  refine And.intro ?_ ?_
  · clear HFIN hgl
    rw [← hf]; clear hf
    refine ⟨by decide +kernel, fun x v => by kernel_rfl, fun x V hV hdep K hK => ?_⟩
    clear hdep
    refine run_bare (by kernel_rfl) ?_
    unfold srnFr
    go_simp
    refine kfit (hK _ _ (Below.refl _ V) rfl) ?_
    first | (simp only [srnFr, Act.put, List.setIfInBounds_toArray, List.set_cons_zero, List.set_cons_succ, h2, h3, h6, h10]; done) | (simp only [srnFr, Act.put, List.setIfInBounds_toArray, List.set_cons_zero, List.set_cons_succ, h2, h3, h6, h10]; rfl)
  -- 1: slot 35 := Op.load 33 t10
  refine And.intro ?_ ?_
  · clear HFIN hgl
    rw [← hf]; clear hf
    refine ⟨by decide +kernel, fun x v => by kernel_rfl, fun x V hV hdep K hK => ?_⟩
    clear hdep
    refine run_bare (by kernel_rfl) ?_
    unfold srnFr
    obtain ⟨y0, y1, y2, y3, y4⟩ := cells5 hV.1.1; have y5 := hV.2.2.1.cell
    go_simp
    refine kfit (hK _ _ (Below.refl _ V) rfl) ?_
    first | (simp only [srnFr, Act.put, List.setIfInBounds_toArray, List.set_cons_zero, List.set_cons_succ, h2, h3, h6, h10]; done) | (simp only [srnFr, Act.put, List.setIfInBounds_toArray, List.set_cons_zero, List.set_cons_succ, h2, h3, h6, h10]; rfl)
  -- 2: slot 36 := Op.fieldAddr 66 t3 1
  refine And.intro ?_ ?_
  · clear HFIN hgl
    rw [← hf]; clear hf
    refine ⟨by decide +kernel, fun x v => by kernel_rfl, fun x V hV hdep K hK => ?_⟩
    clear hdep
    refine run_bare (by kernel_rfl) ?_
    unfold srnFr
    go_simp
    refine kfit (hK _ _ (Below.refl _ V) rfl) ?_
    first | (simp only [srnFr, Act.put, List.setIfInBounds_toArray, List.set_cons_zero, List.set_cons_succ, h2, h3, h6, h10]; done) | (simp only [srnFr, Act.put, List.setIfInBounds_toArray, List.set_cons_zero, List.set_cons_succ, h2, h3, h6, h10]; rfl)
  -- 3: slot 37 := Op.load 55 t36
  refine And.intro ?_ ?_
  · clear HFIN hgl
    rw [← hf]; clear hf
    refine ⟨by decide +kernel, fun x v => by kernel_rfl, fun x V hV hdep K hK => ?_⟩
    have e2 : x 2 = .pointer (some ⟨b3, 1, none⟩) := depOf hdep 2 (by decide +kernel)
    clear hdep
    refine run_bare (by kernel_rfl) ?_
    unfold srnFr
    obtain ⟨y0, y1, y2, y3, y4⟩ := cells5 hV.1.1; have y5 := hV.2.2.1.cell
    go_simp
    refine kfit (hK _ _ (Below.refl _ V) rfl) ?_
    first | (simp only [srnFr, Act.put, List.setIfInBounds_toArray, List.set_cons_zero, List.set_cons_succ, h2, h3, h6, h10, e2]; done) | (simp only [srnFr, Act.put, List.setIfInBounds_toArray, List.set_cons_zero, List.set_cons_succ, h2, h3, h6, h10, e2]; rfl)
  -- 4: slot 38 := Op.call { value (Operand.func 53), args := #[t35, t37], argT
  refine And.intro ?_ ?_
  · clear HFIN hgl
    rw [← hf]; clear hf
    refine ⟨by decide +kernel, fun x v => by kernel_rfl, fun x V hV hdep K hK => ?_⟩
    have e1 : x 1 = .agg #[.slice sa l.length sc] := depOf hdep 1 (by decide +kernel)
    have e3 : x 3 = .slice xa 0 xc := depOf hdep 3 (by decide +kernel)
    clear hdep
    refine run_bare (by kernel_rfl) ?_
    unfold srnFr
    obtain ⟨HC4, HC8⟩ := HC.out
    clear HC8
    have H := HC4 V hV
    replace H := Lib.hid H; clear HC4
    go_simp
    go_at_call 23
    refine H.out.mono ?_
    rintro e Y ⟨⟨zp, rfl, hq⟩, hb⟩; refine kfit (hK _ _ hb ⟨zp, rfl, hq⟩) ?_
    first | (simp only [srnFr, Act.put, List.setIfInBounds_toArray, List.set_cons_zero, List.set_cons_succ, h2, h3, h6, h10, e1, e3]; done) | (simp only [srnFr, Act.put, List.setIfInBounds_toArray, List.set_cons_zero, List.set_cons_succ, h2, h3, h6, h10, e1, e3]; rfl)
  -- 5: slot 39 := Op.load 33 t10
  refine And.intro ?_ ?_
  · clear HFIN hgl
    rw [← hf]; clear hf
    refine ⟨by decide +kernel, fun x v => by kernel_rfl, fun x V hV hdep K hK => ?_⟩
    clear hdep
    refine run_bare (by kernel_rfl) ?_
    unfold srnFr
    obtain ⟨y0, y1, y2, y3, y4⟩ := cells5 hV.1.1; have y5 := hV.2.2.1.cell
    go_simp
    refine kfit (hK _ _ (Below.refl _ V) rfl) ?_
    first | (simp only [srnFr, Act.put, List.setIfInBounds_toArray, List.set_cons_zero, List.set_cons_succ, h2, h3, h6, h10]; done) | (simp only [srnFr, Act.put, List.setIfInBounds_toArray, List.set_cons_zero, List.set_cons_succ, h2, h3, h6, h10]; rfl)
  -- 6: slot 40 := Op.fieldAddr 66 t3 2
  refine And.intro ?_ ?_
  · clear HFIN hgl
    rw [← hf]; clear hf
    refine ⟨by decide +kernel, fun x v => by kernel_rfl, fun x V hV hdep K hK => ?_⟩
    clear hdep
    refine run_bare (by kernel_rfl) ?_
    unfold srnFr
    go_simp
    refine kfit (hK _ _ (Below.refl _ V) rfl) ?_
    first | (simp only [srnFr, Act.put, List.setIfInBounds_toArray, List.set_cons_zero, List.set_cons_succ, h2, h3, h6, h10]; done) | (simp only [srnFr, Act.put, List.setIfInBounds_toArray, List.set_cons_zero, List.set_cons_succ, h2, h3, h6, h10]; rfl)
  -- 7: slot 41 := Op.load 29 t40
  refine And.intro ?_ ?_
  · clear HFIN hgl
    rw [← hf]; clear hf
    refine ⟨by decide +kernel, fun x v => by kernel_rfl, fun x V hV hdep K hK => ?_⟩
    have e6 : x 6 = .pointer (some ⟨b3, 2, none⟩) := depOf hdep 6 (by decide +kernel)
    clear hdep
    refine run_bare (by kernel_rfl) ?_
    unfold srnFr
    obtain ⟨y0, y1, y2, y3, y4⟩ := cells5 hV.1.1; have y5 := hV.2.2.1.cell
    go_simp
    refine kfit (hK _ _ (Below.refl _ V) rfl) ?_
    first | (simp only [srnFr, Act.put, List.setIfInBounds_toArray, List.set_cons_zero, List.set_cons_succ, h2, h3, h6, h10, e6]; done) | (simp only [srnFr, Act.put, List.setIfInBounds_toArray, List.set_cons_zero, List.set_cons_succ, h2, h3, h6, h10, e6]; rfl)
  -- 8: slot 42 := Op.call { value (Operand.func 14), args := #[t39, t41], argT
  refine And.intro ?_ ?_
  · clear HFIN hgl
    rw [← hf]; clear hf
    refine ⟨by decide +kernel, fun x v => by kernel_rfl, fun x V hV hdep K hK => ?_⟩
    have e5 : x 5 = .agg #[.slice sa l.length sc] := depOf hdep 5 (by decide +kernel)
    have e7 : x 7 = .agg #[.int .i64 (t).kind, .string (t).name, .slice ta (t).kids.length tc] := depOf hdep 7 (by decide +kernel)
    clear hdep
    refine run_bare (by kernel_rfl) ?_
    unfold srnFr
    obtain ⟨HC4, HC8⟩ := HC.out
    clear HC4
    have H := HC8 V hV
    replace H := Lib.hid H; clear HC8
    go_simp
    go_at_call 40
    refine H.out.mono ?_
    rintro e Y ⟨⟨za, zc, rfl, hq⟩, hb⟩; refine kfit (hK _ _ hb ⟨za, zc, rfl, hq⟩) ?_
    first | (simp only [srnFr, Act.put, List.setIfInBounds_toArray, List.set_cons_zero, List.set_cons_succ, h2, h3, h6, h10, e5, e7]; done) | (simp only [srnFr, Act.put, List.setIfInBounds_toArray, List.set_cons_zero, List.set_cons_succ, h2, h3, h6, h10, e5, e7]; rfl)
  -- 9: slot 43 := Op.build 66 #[(0, t34), (1, t38), (2, t42)]
  refine And.intro ?_ ?_
  · clear HFIN hgl
    rw [← hf]; clear hf
    refine ⟨by decide +kernel, fun x v => by kernel_rfl, fun x V hV hdep K hK => ?_⟩
    have e0 : x 0 = .slice ga gn gc := depOf hdep 0 (by decide +kernel)
    obtain ⟨zp4, e4, d4⟩ : ∃ zp4, x 4 = .slice (some zp4) 0 0 ∧ True := depOf hdep 4 (by decide +kernel)
    obtain ⟨za8, zc8, e8, d8⟩ : ∃ za8 zc8, x 8 = .agg #[.int .i64 (app l t).kind, .string (app l t).name, .slice za8 (app l t).kids.length zc8] ∧ TysAt V (.slice za8 (app l t).kids.length zc8) (app l t).kids := depOf hdep 8 (by decide +kernel)
    clear hdep
    refine run_bare (by kernel_rfl) ?_
    unfold srnFr
    go_simp
    refine kfit (hK _ _ (Below.refl _ V) ⟨zp4, za8, zc8, rfl, d8⟩) ?_
    first | (simp only [srnFr, Act.put, List.setIfInBounds_toArray, List.set_cons_zero, List.set_cons_succ, h2, h3, h6, h10, e0, e4, e8]; done) | (simp only [srnFr, Act.put, List.setIfInBounds_toArray, List.set_cons_zero, List.set_cons_succ, h2, h3, h6, h10, e0, e4, e8]; rfl)
  -- 10: slot none := Op.store 66 t6 t43
  · clear HC
    rw [← hgl]; clear hgl
    refine ⟨by decide +kernel, fun x V hV hall K hK => ?_⟩
    obtain ⟨zp, za, zc, e9, d9⟩ : ∃ (zp : Addr) (za : Option Addr) (zc : Nat), x 9 = .agg #[.slice ga gn gc, .slice (some zp) 0 0, .int .i64 (app l t).kind, .string (app l t).name, .slice za (app l t).kids.length zc] ∧ TysAt V (.slice za (app l t).kids.length zc) (app l t).kids := hall 9 (by decide)
    clear hall
    refine run_bare (by kernel_rfl) ?_
    unfold srnFr
    obtain ⟨v0, v1, v2, v3, v4⟩ := cells5 hV.2.1
    have f0 := Lib.frozen_of_heap hV.2.1 0; have f1 := Lib.frozen_of_heap hV.2.1 1; have f2 := Lib.frozen_of_heap hV.2.1 2; have f3 := Lib.frozen_of_heap hV.2.1 3; have f4 := Lib.frozen_of_heap hV.2.1 4
    have H := Lib.hid (HFIN.out x V zp za zc hV d9)
    clear HFIN hV d9
    go_simp
    refine kfit (hK undef _ H.out) ?_
    first | (simp only [srnFr, Act.put, List.setIfInBounds_toArray, List.set_cons_zero, List.set_cons_succ, h2, h3, h6, h10, e9]; done) | (simp only [srnFr, Act.put, List.setIfInBounds_toArray, List.set_cons_zero, List.set_cons_succ, h2, h3, h6, h10, e9]; rfl)
theorem srn_here {w : World} {b3 b6 b10 : Nat} {xv : Value} {xa ta sa ga : Option Addr} {xc tc sc gn gc : Nat} {t : T} {l : List PR}
    (HC4 : ∀ V, SR w b3 b6 b10 xv (.slice xa 0 xc) t ta tc sa sc l V → Calls Tryd.prog 23 #[.agg #[.slice sa l.length sc], .slice xa 0 xc] V fun e Y => (∃ zp, e = .returned (.slice (some zp) 0 0) ∧ True) ∧ Below V.heap.size V Y)
    (HC8 : ∀ V, SR w b3 b6 b10 xv (.slice xa 0 xc) t ta tc sa sc l V → Calls Tryd.prog 40 #[.agg #[.slice sa l.length sc], .agg #[.int .i64 (t).kind, .string (t).name, .slice ta (t).kids.length tc]] V fun e Y => (∃ za zc, e = .returned (.agg #[.int .i64 (app l t).kind, .string (app l t).name, .slice za (app l t).kids.length zc]) ∧ TysAt Y (.slice za (app l t).kids.length zc) (app l t).kids) ∧ Below V.heap.size V Y)
    {Q : Exit → Act → World → Prop} {ops : Array Oper} {a : Act} (X : World) (hops : ops = srnOps)
    (h2 : a.tmps.getD 2 undef = .slice ga gn gc) (h3 : a.tmps.getD 3 undef = .pointer (some ⟨b3, 0, none⟩)) (h6 : a.tmps.getD 6 undef = .pointer (some ⟨b6, 0, none⟩)) (h10 : a.tmps.getD 10 undef = .pointer (some ⟨b10, 0, none⟩))
    (ha : a = srnFr (fun j => a.tmps.getD j undef) a.defers (fun i => a.tmps.getD (34 + i) undef)) (hS : SR w b3 b6 b10 xv (.slice xa 0 xc) t ta tc sa sc l X.drew)
    (hfin : ∀ (x : Nat → Value) V zp za zc, SR w b3 b6 b10 xv (.slice xa 0 xc) t ta tc sa sc l V → TysAt V (.slice za (app l t).kids.length zc) (app l t).kids → Q .normal (srnFr (fun j => a.tmps.getD j undef) a.defers x) (set5 V b6 (.slice ga gn gc) (.slice (some zp) 0 0) (.int .i64 (app l t).kind) (.string (app l t).name) (.slice za (app l t).kids.length zc))) : (Code.region 8 ops true).wp Tryd.prog Q a X :=
  cast (congrArg (fun z => (Code.region 8 ops true).wp Tryd.prog Q z X) ha.symm) (srn_region (b := fun j => a.tmps.getD j undef) (d := a.defers) h2 h3 h6 h10 HC4 HC8 hops _ X hS hfin)
end Go.Proofs.YtjnlchhikdfifaaDoor
